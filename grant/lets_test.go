package grant_test

import (
	"fmt"
	"slices"
	"testing"

	"toll/api"
	"toll/grant"
	"toll/object"
)

// P11.2: Lets, Permits, By.

// ask is a kind of a space that points at an object.
type ask struct {
	kind  int
	space string
	to    api.Ref
}

// routes asks for routes of web that point at an object.
func routes(to api.Ref) ask { return ask{api.RouteK, "web", to} }

func lets(o api.Object, a ask) bool { return grant.Lets(o, a.kind, a.space, a.to) }

func permits(l []api.Object, a ask) bool { return grant.Permits(l, a.kind, a.space, a.to) }

func by(l []api.Object, a ask) []api.Ref { return grant.By(l, a.kind, a.space, a.to) }

// checkLets: does an object let it just if it should, and do Permits and By say so of it, alone and among others?
func checkLets(t *testing.T, o api.Object, a ask, want bool) {
	t.Helper()
	if lets(o, a) != want {
		t.Errorf("Lets of %s to %s is %t", brief(o), brief(a), !want)
	}
	var refs []api.Ref
	if want {
		refs = []api.Ref{o.Ref}
	}
	others := objects()[:6]
	for i := range others {
		for _, l := range [][]api.Object{{o}, slices.Insert(slices.Clone(others), i, o)} {
			if got := by(l, a); !slices.Equal(got, refs) {
				t.Errorf("By of %s, at %d, to %s is %v", brief(o), i, brief(a), got)
			}
			if got := permits(l, a); got != (want || a.to.Space == a.space) {
				t.Errorf("Permits of %s, at %d, to %s is %t", brief(o), i, brief(a), got)
			}
		}
	}
}

func TestLets(t *testing.T) {
	checkLets(t, plain(), routes(appAPI()), true)
	checkLets(t, one(from(api.RouteK, "web"), to(api.ServiceK, "")), routes(appAPI()), true)
	checkLets(t, one(from(api.GatewayK, "ops"), to(api.SecretK, "a.b")), ask{api.GatewayK, "ops", ref(api.SecretK, "app", "a.b")}, true)
	// A grant may be from its own space, too.
	checkLets(t, one(from(api.RouteK, "app"), to(api.ServiceK, "api")), ask{api.RouteK, "app", appAPI()}, true)
	// Which name the grant has plays no part.
	o := plain()
	for _, name := range []string{"a", "a.b", "api"} {
		o.Ref.Name = name
		checkLets(t, o, routes(appAPI()), true)
	}
}

// TestLetsOfOtherKinds: an object that is no grant lets nothing, whatever sides it has.
func TestLetsOfOtherKinds(t *testing.T) {
	for _, o := range objects()[:6] {
		checkLets(t, o, routes(appAPI()), false)
		g := plain()
		o.From, o.To = g.From, g.To
		checkLets(t, o, routes(appAPI()), false)
	}
	for kind := -1; kind <= 8; kind++ {
		o := plain()
		o.Ref.Kind = kind
		checkLets(t, o, routes(appAPI()), kind == api.GrantK)
	}
	for _, kind := range noKinds {
		o := plain()
		o.Ref.Kind = kind
		checkLets(t, o, routes(appAPI()), false)
	}
	checkLets(t, api.Object{}, routes(appAPI()), false)
	checkLets(t, api.Object{}, ask{}, false)
}

// TestLetsOfNone: a grant that may not be lets nothing, though it has the sides.
func TestLetsOfNone(t *testing.T) {
	web, api1 := plain().From[0], plain().To[0]
	for name, spoil := range map[string]func(o *api.Object){
		"no name":                   func(o *api.Object) { o.Ref.Name = "" },
		"a name that is none":       func(o *api.Object) { o.Ref.Name = "Let" },
		"something of other kinds":  func(o *api.Object) { o.Good = true },
		"a list of other kinds":     func(o *api.Object) { o.Hosts = []string{"a.test"} },
		"no side from":              func(o *api.Object) { o.From = nil },
		"no side to":                func(o *api.Object) { o.To = nil },
		"a side from that is none":  func(o *api.Object) { o.From = []api.Side{web, {}} },
		"a side to that is none":    func(o *api.Object) { o.To = []api.Side{api1, {}} },
		"a side from with a name":   func(o *api.Object) { o.From[0].Name = "shop" },
		"a side to with a space":    func(o *api.Object) { o.To[0].Space = "app" },
		"another one with a name":   func(o *api.Object) { o.From = []api.Side{web, {Kind: api.RouteK, Space: "ops", Name: "x"}} },
		"another one with a space":  func(o *api.Object) { o.To = []api.Side{api1, {Kind: api.ServiceK, Space: "app"}} },
		"another one of no kind":    func(o *api.Object) { o.From = []api.Side{{Kind: 8, Space: "web"}, web} },
		"too many sides from":       func(o *api.Object) { o.From = slices.Repeat([]api.Side{web}, 5) },
		"too many sides to":         func(o *api.Object) { o.To = slices.Repeat([]api.Side{api1}, 5) },
		"sides from without an end": func(o *api.Object) { o.From = slices.Repeat([]api.Side{web}, 1<<12) },
	} {
		o := plain()
		if !lets(o, routes(appAPI())) {
			t.Fatal("ahead of it it does not let it")
		}
		spoil(&o)
		if object.May(o) {
			t.Fatalf("%s: it may be", name)
		}
		checkLets(t, o, routes(appAPI()), false)
	}
	// A space of a grant that is none, though it is the object's.
	for _, space := range noTexts {
		o := plain()
		o.Ref.Space = space
		checkLets(t, o, routes(ref(api.ServiceK, space, "api")), false)
	}
}

// TestLetsBySpaces: a grant lets what is in its own space alone.
func TestLetsBySpaces(t *testing.T) {
	spaces := []string{"app", "web", "ops", "ap", "app-2", "a.b", "", "App"}
	for _, own := range spaces[:5] {
		for _, space := range spaces {
			o := plain()
			o.Ref.Space = own
			checkLets(t, o, routes(ref(api.ServiceK, space, "api")), own == space)
		}
	}
}

// TestLetsByFrom: one side must have both the kind and the space.
func TestLetsByFrom(t *testing.T) {
	a := routes(appAPI())
	web, gateway, ops, neither := from(api.RouteK, "web"), from(api.GatewayK, "web"), from(api.RouteK, "ops"), from(api.GatewayK, "ops")
	for _, c := range []struct {
		sides []api.Side
		want  bool
	}{
		{[]api.Side{ops}, false}, {[]api.Side{gateway}, false}, {[]api.Side{neither}, false},
		{[]api.Side{ops, gateway}, false}, {[]api.Side{gateway, ops}, false}, {[]api.Side{gateway, neither, ops, neither}, false},
		{[]api.Side{web, ops}, true}, {[]api.Side{ops, web}, true}, {[]api.Side{gateway, web}, true}, {[]api.Side{web, web}, true},
		{[]api.Side{ops, gateway, neither, web}, true}, {[]api.Side{web, ops, gateway, neither}, true}, {[]api.Side{ops, web, gateway, neither}, true},
		{[]api.Side{from(api.RouteK, "we")}, false}, {[]api.Side{from(api.RouteK, "web2")}, false},
	} {
		o := plain()
		o.From = c.sides
		if !object.May(o) {
			t.Fatalf("%s may not be", brief(o))
		}
		checkLets(t, o, a, c.want)
	}
	// What is in To is not from where it comes.
	checkLets(t, one(from(api.ServiceK, "api"), to(api.RouteK, "web")), a, false)
}

// TestLetsByTo: one side must have both the kind, and the name, or none.
func TestLetsByTo(t *testing.T) {
	a := routes(appAPI())
	named, all, db, secret, secrets := to(api.ServiceK, "api"), to(api.ServiceK, ""), to(api.ServiceK, "db"), to(api.SecretK, "api"), to(api.SecretK, "")
	for _, c := range []struct {
		sides []api.Side
		want  bool
	}{
		{[]api.Side{named}, true}, {[]api.Side{all}, true}, {[]api.Side{db}, false}, {[]api.Side{secret}, false}, {[]api.Side{secrets}, false},
		{[]api.Side{db, secret}, false}, {[]api.Side{secrets, db}, false}, {[]api.Side{db, secret, secrets, db}, false},
		{[]api.Side{db, named}, true}, {[]api.Side{secrets, all}, true}, {[]api.Side{named, db}, true}, {[]api.Side{all, db}, true}, {[]api.Side{all, named}, true},
		{[]api.Side{db, secret, secrets, named}, true}, {[]api.Side{db, secret, secrets, all}, true}, {[]api.Side{secret, named, db}, true},
		{[]api.Side{to(api.ServiceK, "ap")}, false}, {[]api.Side{to(api.ServiceK, "api2")}, false}, {[]api.Side{to(api.ServiceK, "a.api")}, false},
	} {
		o := plain()
		o.To = c.sides
		if !object.May(o) {
			t.Fatalf("%s may not be", brief(o))
		}
		checkLets(t, o, a, c.want)
	}
}

// TestLetsOfEachKind: which kinds are let is told by the sides alone.
func TestLetsOfEachKind(t *testing.T) {
	for kind := range 7 {
		for other := range 7 {
			o := one(from(kind+1, "web"), to(other+1, ""))
			for asked := 0; asked <= 8; asked++ {
				for target := 0; target <= 8; target++ {
					checkLets(t, o, ask{asked, "web", ref(target, "app", "api")}, asked == kind+1 && target == other+1)
				}
			}
		}
	}
}

// TestLetsOfNoKind: kinds and spaces that are none are let nothing, and are not pointed at.
func TestLetsOfNoKind(t *testing.T) {
	for _, o := range []api.Object{plain(), one(from(api.RouteK, "web"), to(api.ServiceK, ""))} {
		for _, kind := range noKinds {
			checkLets(t, o, ask{kind, "web", appAPI()}, false)
			checkLets(t, o, routes(ref(kind, "app", "api")), false)
		}
		for _, space := range noTexts {
			checkLets(t, o, ask{api.RouteK, space, appAPI()}, false)
			checkLets(t, o, routes(ref(api.ServiceK, space, "api")), false)
		}
	}
	// A name that is none is let by a side for all of them, and by no other one.
	for _, name := range noTexts {
		checkLets(t, one(from(api.RouteK, "web"), to(api.ServiceK, "")), routes(ref(api.ServiceK, "app", name)), true)
		checkLets(t, plain(), routes(ref(api.ServiceK, "app", name)), false)
	}
}

// TestOfClassesAndSpaces: they are in no space, so that no grant lets anyone point at one.
func TestOfClassesAndSpaces(t *testing.T) {
	for _, kind := range []int{api.ClassK, api.SpaceK} {
		for _, name := range []string{"", "x"} {
			o := one(from(api.RouteK, "web"), to(kind, name))
			checkLets(t, o, routes(ref(kind, "", "x")), false)
			if permits([]api.Object{o}, routes(ref(kind, "", "x"))) {
				t.Errorf("Permits of kind %d is true", kind)
			}
			// A grant in no space may not be.
			o.Ref.Space = ""
			checkLets(t, o, routes(ref(kind, "", "x")), false)
		}
	}
}

// TestPermitsInItsOwnSpace: there it needs no grant, whatever kinds there are.
func TestPermitsInItsOwnSpace(t *testing.T) {
	all := append(objects(), api.Object{}, api.Object{Ref: ref(api.GrantK, "web", "none")})
	for kind := -1; kind <= 8; kind++ {
		for target := -1; target <= 8; target++ {
			for _, space := range []string{"web", "app", "a.b", "A", ""} {
				a := ask{kind, space, ref(target, space, "x")}
				for _, l := range [][]api.Object{nil, {}, all} {
					if !permits(l, a) {
						t.Errorf("Permits of %s is false", brief(a))
					}
				}
				if got := by(nil, a); len(got) != 0 {
					t.Errorf("By of %s, of none, is %v", brief(a), got)
				}
			}
			if a := (ask{kind, "web", ref(target, "app", "x")}); permits(nil, a) || permits([]api.Object{}, a) {
				t.Errorf("Permits of %s is true", brief(a))
			}
		}
	}
}

// TestBy: those that let it, in order, and no others.
func TestBy(t *testing.T) {
	a := routes(appAPI())
	let := func(name string) api.Object {
		o := plain()
		o.Ref.Name = name
		return o
	}
	not := func(name string) api.Object {
		o := let(name)
		o.To = []api.Side{to(api.ServiceK, "db")}
		return o
	}
	bad := let("bad")
	bad.Good = true
	for _, c := range []struct {
		l    []api.Object
		want []string
	}{
		{nil, nil},
		{[]api.Object{not("a"), not("b"), bad}, nil},
		{[]api.Object{let("a")}, []string{"a"}},
		{[]api.Object{not("a"), let("b"), not("c")}, []string{"b"}},
		{[]api.Object{let("a"), not("b"), let("c")}, []string{"a", "c"}},
		// In the order of the list, not of refs.
		{[]api.Object{let("z"), let("a"), bad, let("m")}, []string{"z", "a", "m"}},
		// Each as often as it is there.
		{[]api.Object{let("a"), let("a")}, []string{"a", "a"}},
		{[]api.Object{let("b"), let("a"), let("b"), not("b")}, []string{"b", "a", "b"}},
		{append(objects(), let("a")), []string{"let", "a"}},
	} {
		var got []string
		for _, r := range by(c.l, a) {
			if r.Kind != api.GrantK || r.Space != "app" {
				t.Errorf("By of %s has %v", brief(c.l), r)
			}
			got = append(got, r.Name)
		}
		if !slices.Equal(got, c.want) || permits(c.l, a) != (len(c.want) > 0) {
			t.Errorf("By of %s is %q, Permits %t", brief(c.l), got, permits(c.l, a))
		}
	}
}

// TestMany has more objects than a store keeps.
func TestMany(t *testing.T) {
	var l []api.Object
	var want []api.Ref
	for i := range 1 << 12 {
		o := plain()
		o.Ref.Name = fmt.Sprint("g", i)
		if i%2 == 0 {
			o.From = []api.Side{from(api.RouteK, "ops")}
		} else {
			want = append(want, o.Ref)
		}
		l = append(l, o)
	}
	if got := by(l, routes(appAPI())); !slices.Equal(got, want) || !permits(l, routes(appAPI())) {
		t.Errorf("By of many has %d", len(got))
	}
	checkFind(t, l, ref(api.GrantK, "app", "g4095"), 4095)
}
