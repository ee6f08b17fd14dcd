package object_test

import (
	"slices"
	"testing"

	"toll/api"
	"toll/dns"
	"toll/object"
)

// P9.2 and P9.4: Refs.

// gatewayWith is a gateway in web with these certificates, a listener for each, and one by no TLS.
func gatewayWith(certs ...api.Ref) api.Object {
	o := api.Object{Ref: ref(api.GatewayK, "web", "gw"), Class: "ours", Listeners: []api.Listener{{Name: "plain", Port: 80}}}
	for i, c := range certs {
		o.Listeners = append(o.Listeners, api.Listener{Name: string([]byte{'a' + byte(i)}), Port: 443, TLS: true, Cert: c})
	}
	return o
}

// routeWith is a route in web with these parents, and a rule for each list of backends.
func routeWith(parents []api.Parent, backends ...[]api.Ref) api.Object {
	o := api.Object{Ref: ref(api.RouteK, "web", "r"), Parents: parents}
	for _, l := range backends {
		var r api.Rule
		for _, b := range l {
			r.Backends = append(r.Backends, api.Backend{Ref: b})
		}
		o.Rules = append(o.Rules, r)
	}
	return o
}

func checkRefs(t *testing.T, o api.Object, want ...api.Ref) {
	t.Helper()
	if !object.May(o) {
		t.Errorf("%s may not be", brief(o))
	}
	if got := object.Refs(o); !slices.Equal(got, want) {
		t.Errorf("Refs of %s: %v, not %v", brief(o), got, want)
	}
}

func TestRefsOfKindsWithout(t *testing.T) {
	for _, kind := range []int{api.ClassK, api.SpaceK, api.ServiceK, api.SecretK, api.GrantK} {
		checkRefs(t, least(kind))
		checkRefs(t, full(kind))
	}
}

func TestRefsOfGateways(t *testing.T) {
	class := ref(api.ClassK, "", "ours")
	secret := func(space, name string) api.Ref { return ref(api.SecretK, space, name) }
	checkRefs(t, gatewayWith(), class)
	checkRefs(t, gatewayWith(secret("web", "c")), class, secret("web", "c"))
	checkRefs(t, gatewayWith(secret("app", "c")), class, secret("app", "c"))
	// An empty space is the gateway's own, also where that puts it elsewhere in the order.
	checkRefs(t, gatewayWith(secret("", "c")), class, secret("web", "c"))
	checkRefs(t, gatewayWith(secret("", "c"), secret("app", "d")), class, secret("app", "d"), secret("web", "c"))
	checkRefs(t, gatewayWith(secret("", "c"), secret("zoo", "b")), class, secret("web", "c"), secret("zoo", "b"))
	// One that is there twice, by itself, and by an empty space and its own.
	checkRefs(t, gatewayWith(secret("app", "c"), secret("app", "c")), class, secret("app", "c"))
	checkRefs(t, gatewayWith(secret("", "c"), secret("", "c")), class, secret("web", "c"))
	checkRefs(t, gatewayWith(secret("", "c"), secret("app", "c"), secret("web", "c")), class, secret("app", "c"), secret("web", "c"))
	checkRefs(t, gatewayWith(secret("b", "z"), secret("b", "a"), secret("a", "z"), secret("a-b", "a"), secret("a", "b")),
		class, secret("a", "b"), secret("a", "z"), secret("a-b", "a"), secret("b", "a"), secret("b", "z"))
	named := gatewayWith()
	named.Class = name60
	checkRefs(t, named, ref(api.ClassK, "", name60))
	checkRefs(t, full(api.GatewayK), ref(api.ClassK, "", "c.test"), secret("s1", "c1"), secret("s3", "c3"), secret("s5", "c5"), secret("s7", "c7"))
}

func TestRefsOfParents(t *testing.T) {
	space := ref(api.SpaceK, "", "web")
	gw := func(space, name string) api.Ref { return ref(api.GatewayK, space, name) }
	checkRefs(t, routeWith(nil), space)
	checkRefs(t, routeWith([]api.Parent{{Name: "gw"}}), space, gw("web", "gw"))
	checkRefs(t, routeWith([]api.Parent{{Space: "app", Name: "gw"}}), space, gw("app", "gw"))
	checkRefs(t, routeWith([]api.Parent{{Name: "gw"}, {Space: "web", Name: "gw"}}), space, gw("web", "gw"))
	// Parents that differ, of one gateway.
	checkRefs(t, routeWith([]api.Parent{{Name: "gw", Section: "a"}, {Name: "gw", Section: "b"}, {Name: "gw", Port: 80}, {Name: "gw"}}), space, gw("web", "gw"))
	checkRefs(t, routeWith([]api.Parent{{Name: "z"}, {Space: "zoo", Name: "a"}, {Name: "a"}, {Space: "app", Name: "z"}}),
		space, gw("app", "z"), gw("web", "a"), gw("web", "z"), gw("zoo", "a"))
}

func TestRefsOfBackends(t *testing.T) {
	space := ref(api.SpaceK, "", "web")
	one := func(r api.Ref) api.Object { return routeWith(nil, []api.Ref{r}) }
	for _, kind := range kinds[2:] {
		checkRefs(t, one(ref(kind, "", "x")), space, ref(kind, "web", "x"))
		checkRefs(t, one(ref(kind, "web", "x")), space, ref(kind, "web", "x"))
		checkRefs(t, one(ref(kind, "app", "x.y")), space, ref(kind, "app", "x.y"))
	}
	// Of ClassK and SpaceK an empty space stays empty, and another one stays as well.
	checkRefs(t, one(ref(api.ClassK, "", "x")), ref(api.ClassK, "", "x"), space)
	checkRefs(t, one(ref(api.ClassK, "app", "x")), ref(api.ClassK, "app", "x"), space)
	checkRefs(t, one(ref(api.SpaceK, "", "app")), ref(api.SpaceK, "", "app"), space)
	checkRefs(t, one(ref(api.SpaceK, "", "zoo")), space, ref(api.SpaceK, "", "zoo"))
	checkRefs(t, one(ref(api.SpaceK, "", "web")), space)
	checkRefs(t, one(ref(api.SpaceK, "web", "web")), space, ref(api.SpaceK, "web", "web"))
	checkRefs(t, one(ref(api.SpaceK, "", "a.b")), ref(api.SpaceK, "", "a.b"), space)
	// A route's own ref is one like all others.
	checkRefs(t, one(ref(api.RouteK, "", "r")), space, ref(api.RouteK, "web", "r"))
}

func TestRefsOfBackendsTwice(t *testing.T) {
	space, app, web := ref(api.SpaceK, "", "web"), ref(api.ServiceK, "app", "api"), ref(api.ServiceK, "web", "api")
	own := ref(api.ServiceK, "", "api")
	checkRefs(t, routeWith(nil, []api.Ref{app, app}), space, app)
	checkRefs(t, routeWith(nil, []api.Ref{app}, []api.Ref{app}), space, app)
	checkRefs(t, routeWith(nil, []api.Ref{own, app, web}, nil, []api.Ref{web, own}), space, app, web)
	// By ports and weights two backends differ, but not their refs; what has no weight is pointed at, too.
	o := routeWith(nil, []api.Ref{app, app, app})
	o.Rules[0].Backends[0].Port, o.Rules[0].Backends[1].Weight = 80, 1000
	checkRefs(t, o, space, app)
	// A gateway that is a parent, and a backend.
	gw := ref(api.GatewayK, "web", "gw")
	checkRefs(t, routeWith([]api.Parent{{Name: "gw"}}, []api.Ref{ref(api.GatewayK, "", "gw"), gw}), space, gw)
}

// TestRefsOfRules: all rules are gone through, whatever else they have.
func TestRefsOfRules(t *testing.T) {
	want := []api.Ref{ref(api.SpaceK, "", "web")}
	o := least(api.RouteK)
	for i := range 6 {
		var r api.Rule
		for k := range 4 {
			b := ref(api.ServiceK, "", string([]byte{'a' + byte(4*i+k)}))
			r.Backends = append(r.Backends, api.Backend{Ref: b})
			b.Space = "web"
			want = append(want, b)
		}
		r.Filters = []api.Filter{{Kind: api.AwayF, Host: "other.test", Code: 301}}
		r.Matches = fullRules()[i].Matches
		o.Rules = append(o.Rules, r)
	}
	o.Hosts = []string{"a.test"}
	checkRefs(t, o, want...)
	slices.Reverse(o.Rules)
	checkRefs(t, o, want...)
}

// TestRefsInOrder has one backend of each kind, put in the other way round.
func TestRefsInOrder(t *testing.T) {
	checkRefs(t, routeWith([]api.Parent{{Space: "zoo", Name: "z"}, {Name: "a"}},
		[]api.Ref{ref(7, "", "x"), ref(6, "", "x"), ref(5, "", "x"), ref(4, "", "x")},
		[]api.Ref{ref(3, "", "x"), ref(2, "", "x"), ref(1, "", "x"), ref(3, "app", "y")},
	),
		ref(1, "", "x"), ref(2, "", "web"), ref(2, "", "x"), ref(3, "app", "y"), ref(3, "web", "x"), ref(4, "web", "x"),
		ref(5, "web", "a"), ref(5, "web", "x"), ref(5, "zoo", "z"), ref(6, "web", "x"), ref(7, "web", "x"))
}

// TestRefsOfNone: an object that may not be has none, whatever it points at.
func TestRefsOfNone(t *testing.T) {
	for i, o := range []api.Object{
		{}, all(), {Class: "ours"}, {Ref: ref(api.GatewayK, "web", "gw"), Class: "ours"},
		{Ref: ref(api.RouteK, "", "r")}, {Ref: ref(api.RouteK, "web", "R")}, {Ref: ref(8, "web", "r")}, {Ref: ref(0, "web", "r")},
	} {
		if got := object.Refs(o); object.May(o) || len(got) != 0 {
			t.Errorf("Refs of %d: %v", i, got)
		}
	}
	for i, spoil := range []func(g, r *api.Object){
		func(g, r *api.Object) { g.Ref.Name, r.Ref.Name = "", "" },
		func(g, r *api.Object) { g.Ref.Space, r.Ref.Space = "", "" },
		func(g, r *api.Object) { g.Ref.Space, r.Ref.Space = "a.b", "a.b" },
		func(g, r *api.Object) { g.Ref.Kind, r.Ref.Kind = api.RouteK, api.GatewayK },
		func(g, r *api.Object) { g.Good, r.Good = true, true },
		func(g, r *api.Object) { g.From, r.To = make([]api.Side, 1), make([]api.Side, 1) },
		func(g, r *api.Object) { g.Listeners[7].Port, r.Parents[3].Port = 0, 65536 },
		func(g, r *api.Object) { g.Class, r.Hosts[3] = "A", "" },
		func(g, r *api.Object) { g.Listeners[0].Cert.Name, r.Rules[5].Backends[3].Ref.Kind = "x", 8 },
		func(g, r *api.Object) { g.Listeners[1].Cert.Kind, r.Rules[5].Backends[3].Weight = api.ServiceK, -1 },
	} {
		g, r := full(api.GatewayK), full(api.RouteK)
		if len(object.Refs(g)) == 0 || len(object.Refs(r)) == 0 {
			t.Fatal("ahead of it there are none")
		}
		spoil(&g, &r)
		if got := object.Refs(g); object.May(g) || len(got) != 0 {
			t.Errorf("Refs of the gateway %d: %v", i, got)
		}
		if got := object.Refs(r); object.May(r) || len(got) != 0 {
			t.Errorf("Refs of the route %d: %v", i, got)
		}
	}
}

// refsByWords is the chapter's words of refs said once more: each is looked for among all that were found.
func refsByWords(o api.Object) []api.Ref {
	if !object.May(o) {
		return nil
	}
	found := map[api.Ref]bool{}
	point := func(r api.Ref) {
		if r.Space == "" {
			r.Space = o.Ref.Space
		}
		found[r] = true
	}
	if o.Ref.Kind == api.GatewayK {
		found[api.Ref{Kind: api.ClassK, Name: o.Class}] = true
		for _, l := range o.Listeners {
			if l.Cert != (api.Ref{}) {
				point(l.Cert)
			}
		}
	}
	if o.Ref.Kind == api.RouteK {
		found[api.Ref{Kind: api.SpaceK, Name: o.Ref.Space}] = true
		for _, p := range o.Parents {
			point(api.Ref{Kind: api.GatewayK, Space: p.Space, Name: p.Name})
		}
		for _, r := range o.Rules {
			for _, b := range r.Backends {
				if b.Ref.Kind <= api.SpaceK {
					found[b.Ref] = true
				} else {
					point(b.Ref)
				}
			}
		}
	}
	var out []api.Ref
	for r := range found {
		at, _ := slices.BinarySearchFunc(out, r, object.Order)
		out = slices.Insert(out, at, r)
	}
	return out
}

// checkWords: are an object's refs those of the words, each with a kind and a name, and each once, in order?
func checkWords(t *testing.T, o api.Object) []api.Ref {
	t.Helper()
	got := object.Refs(o)
	if want := refsByWords(o); !slices.Equal(got, want) {
		t.Fatalf("Refs of %s: %v, not %v", brief(o), got, want)
	}
	for i, r := range got {
		if r.Kind < api.ClassK || r.Kind > api.GrantK || !dns.Name(r.Name) {
			t.Fatalf("Refs of %s: %v", brief(o), r)
		}
		if i > 0 && object.Order(got[i-1], r) != -1 {
			t.Fatalf("Refs of %s: %v ahead of %v", brief(o), got[i-1], r)
		}
	}
	return got
}

func TestRefsByWords(t *testing.T) {
	for _, o := range some() {
		checkWords(t, o)
	}
	var some []api.Ref
	for _, kind := range []int{1, 2, 3, 5, 7} {
		for _, space := range []string{"", "app", "web"} {
			for _, name := range []string{"gw", "web"} {
				some = append(some, ref(kind, space, name))
			}
		}
	}
	for _, parents := range [][]api.Parent{nil, {{Name: "gw"}}, {{Space: "web", Name: "gw"}, {Name: "web"}}, {{Space: "app", Name: "gw"}, {Name: "gw"}}} {
		for _, a := range some {
			for _, b := range some {
				one := checkWords(t, routeWith(parents, []api.Ref{a, b}))
				two := checkWords(t, routeWith(parents, []api.Ref{b}, []api.Ref{a}))
				// Where they stand among the rules has nothing to do with it.
				if len(one) == 0 || !slices.Equal(one, two) {
					t.Fatalf("Refs of %v and %v: %v, in two rules: %v", a, b, one, two)
				}
			}
		}
	}
	var certs []api.Ref
	for _, space := range []string{"", "app", "web"} {
		for _, name := range []string{"a", "b", "a.b"} {
			certs = append(certs, ref(api.SecretK, space, name))
		}
	}
	for _, a := range certs {
		for _, b := range certs {
			for _, c := range certs {
				if len(checkWords(t, gatewayWith(a, b, c))) < 2 {
					t.Fatalf("Refs of %v, %v and %v are too few", a, b, c)
				}
			}
		}
	}
}
