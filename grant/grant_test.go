package grant_test

import (
	"fmt"
	"math"
	"reflect"
	"strings"
	"testing"

	"toll/api"
	"toll/grant"
	"toll/object"
)

func ref(kind int, space, name string) api.Ref {
	return api.Ref{Kind: kind, Space: space, Name: name}
}

// from and to are sides of a grant.
func from(kind int, space string) api.Side { return api.Side{Kind: kind, Space: space} }

func to(kind int, name string) api.Side { return api.Side{Kind: kind, Name: name} }

// made is a grant in a space.
func made(space, name string, from, to []api.Side) api.Object {
	return api.Object{Ref: ref(api.GrantK, space, name), From: from, To: to}
}

// one is a grant in app of one side each.
func one(from, to api.Side) api.Object {
	return made("app", "let", []api.Side{from}, []api.Side{to})
}

// plain is a grant in app, from RouteK of web, to ServiceK api.
func plain() api.Object { return one(from(api.RouteK, "web"), to(api.ServiceK, "api")) }

// appAPI is whom the plain grant lets routes of web point at.
func appAPI() api.Ref { return ref(api.ServiceK, "app", "api") }

// objects is an object of each kind, that may be, each with lists, where its kind has some.
func objects() []api.Object {
	has := []api.Need{{Kind: api.Is, Name: "team", Vals: []string{"a", "b"}}}
	match := api.Match{Path: api.Path{Kind: api.Prefix, Val: "/"}, Head: []api.Pair{{Name: "h", Val: "1"}}, Query: []api.Pair{{Name: "q", Val: "1"}}}
	return []api.Object{
		{Ref: ref(api.ClassK, "", "ours"), Good: true},
		{Ref: ref(api.SpaceK, "", "web"), Labels: []api.Pair{{Name: "team", Val: "a"}}},
		{Ref: ref(api.ServiceK, "app", "api"), Ports: []int{80, 443}},
		{Ref: ref(api.SecretK, "app", "api"), Good: true},
		{Ref: ref(api.GatewayK, "web", "gw"), Class: "ours", Listeners: []api.Listener{{Name: "a", Port: 80, From: api.SomeSpaces, Needs: has}, {Name: "b", Port: 81}}},
		{
			Ref:     ref(api.RouteK, "web", "shop"),
			Parents: []api.Parent{{Name: "gw"}},
			Hosts:   []string{"a.test", "*.test"},
			Rules: []api.Rule{{
				Matches:  []api.Match{match},
				Filters:  []api.Filter{{Kind: api.SetF, Name: "via", Val: "toll"}},
				Backends: []api.Backend{{Ref: ref(api.ServiceK, "app", "api"), Port: 80, Weight: 1}},
			}},
		},
		plain(),
	}
}

// noKinds are numbers of no kind of objects.
var noKinds = []int{0, 8, 9, -1, -3, 1 << 32, 1<<32 + 3, 1<<32 + 6, -1<<32 + 6, 256 + 3, 256 + 6, math.MaxInt, math.MinInt}

// noTexts are texts that are no labels, and no names.
var noTexts = []string{"", ".", "A", "web.", ".web", "a..b", "-", " ", "web ", "a/b", "*", "\xff", "\x00", strings.Repeat("a", 1<<16)}

// brief is a value's text, cut where it would fill the screen.
func brief(v any) string { return fmt.Sprintf("%.600s", fmt.Sprintf("%+v", v)) }

func TestEdges(t *testing.T) {
	for _, o := range objects() {
		if !object.May(o) {
			t.Errorf("the object %s is no good for tests", brief(o))
		}
	}
}

func TestExamples(t *testing.T) {
	l := []api.Object{plain()}
	if !grant.Permits(l, api.RouteK, "web", appAPI()) {
		t.Error("example 1: no")
	}
	if grant.Permits(l, api.RouteK, "web", ref(api.ServiceK, "app", "db")) {
		t.Error("example 2: yes")
	}
	if grant.Permits(l, api.RouteK, "ops", appAPI()) {
		t.Error("example 3: yes")
	}
}

// P11.1: Find.

// checkFind: is the object at that place found, or none, where it is -1?
func checkFind(t *testing.T, l []api.Object, r api.Ref, at int) {
	t.Helper()
	var want api.Object
	if at >= 0 {
		want = l[at]
	}
	got, there := grant.Find(l, r)
	if !alike(got, want) || there != (at >= 0) {
		t.Errorf("Find of %s is %s, %t, not %s", brief(r), brief(got), there, brief(want))
	}
}

func TestFind(t *testing.T) {
	l := objects()
	for i, o := range l {
		checkFind(t, l, o.Ref, i)
		checkFind(t, l[i:], o.Ref, 0)
		checkFind(t, l[:i+1], o.Ref, i)
		checkFind(t, []api.Object{o}, o.Ref, 0)
		checkFind(t, l[:i], o.Ref, -1)
		checkFind(t, l[i+1:], o.Ref, -1)
		checkFind(t, nil, o.Ref, -1)
		checkFind(t, []api.Object{}, o.Ref, -1)
	}
}

// TestFindByOnePart: a ref that differs in one part alone is another one.
func TestFindByOnePart(t *testing.T) {
	app := objects()[2]
	near := []api.Ref{
		ref(api.SecretK, "app", "api"), ref(api.GrantK, "app", "api"), ref(0, "app", "api"),
		ref(api.ServiceK, "web", "api"), ref(api.ServiceK, "ap", "api"), ref(api.ServiceK, "app-", "api"), ref(api.ServiceK, "", "api"), ref(api.ServiceK, "App", "api"),
		ref(api.ServiceK, "app", "db"), ref(api.ServiceK, "app", "ap"), ref(api.ServiceK, "app", "api.a"), ref(api.ServiceK, "app", ""), ref(api.ServiceK, "app", "API"),
		{},
	}
	var l []api.Object
	for _, r := range near {
		checkFind(t, []api.Object{app}, r, -1)
		l = append(l, api.Object{Ref: r, Ports: app.Ports})
	}
	checkFind(t, l, app.Ref, -1)
	checkFind(t, append(l, app), app.Ref, len(l))
	for i, r := range near {
		checkFind(t, append(l, app), r, i)
	}
}

// TestFindTheFirst: of several objects of one ref it is the first, whatever else they have.
func TestFindTheFirst(t *testing.T) {
	r := ref(api.SecretK, "web", "cert")
	two := []api.Object{{Ref: r}, {Ref: r, Good: true}}
	checkFind(t, two, r, 0)
	checkFind(t, []api.Object{two[1], two[0]}, r, 0)
	for i := range 5 {
		l := make([]api.Object, i)
		checkFind(t, append(append(l, two...), two[0]), r, i)
	}
	// One that may not be is ahead of one that may.
	bad := api.Object{Ref: r, Good: true, Ports: []int{1}, Class: "c"}
	checkFind(t, []api.Object{bad, two[1]}, r, 0)
	checkFind(t, []api.Object{two[1], bad}, r, 0)
}

// TestFindOfNone: refs and objects that may not be are found like all others.
func TestFindOfNone(t *testing.T) {
	for _, r := range []api.Ref{{}, ref(8, "web", "a"), ref(-1, "", ""), ref(api.ServiceK, "", "api"), ref(api.ClassK, "web", "ours"), ref(api.SpaceK, "", "a.b"), ref(math.MinInt, "\xff", " ")} {
		if object.MayRef(r) {
			t.Fatalf("%s may be", brief(r))
		}
		checkFind(t, objects(), r, -1)
		l := append(objects(), api.Object{Ref: r, Hosts: []string{"*"}}, api.Object{Ref: r})
		checkFind(t, l, r, len(l)-2)
	}
	bad := []api.Object{
		{Ref: ref(api.GatewayK, "web", "none")},
		{Ref: ref(api.ServiceK, "web", "none"), Ports: []int{0, 1 << 40, -1}},
		{Ref: ref(api.GrantK, "web", "none"), From: make([]api.Side, 9), Labels: []api.Pair{{}}},
	}
	for i, o := range bad {
		if object.May(o) {
			t.Fatalf("%s may be", brief(o))
		}
		checkFind(t, bad, o.Ref, i)
	}
}

// P11.1: Near.

func TestNear(t *testing.T) {
	for kind := 0; kind <= 8; kind++ {
		free := kind == api.ClassK || kind == api.SpaceK
		for _, name := range []string{"", "api", "a.b", "A"} {
			for _, space := range []string{"web", "app", "", "a.b", " "} {
				want := ref(kind, space, name)
				if free {
					want.Space = ""
				}
				if got := grant.Near(ref(kind, "", name), space); got != want {
					t.Errorf("Near of kind %d, of no space, to %q: %v", kind, space, got)
				}
				for _, own := range []string{"app", "a.b", " ", "\x00"} {
					if got := grant.Near(ref(kind, own, name), space); got != ref(kind, own, name) {
						t.Errorf("Near of kind %d, of %q, to %q: %v", kind, own, space, got)
					}
				}
			}
		}
	}
	for _, kind := range noKinds {
		if got := grant.Near(ref(kind, "", "x"), "web"); got != ref(kind, "web", "x") {
			t.Errorf("Near of kind %d: %v", kind, got)
		}
	}
}

// alike: are two values the same, if a list without elements is none?
func alike[T any](a, b T) bool { return equal(reflect.ValueOf(a), reflect.ValueOf(b)) }

func equal(a, b reflect.Value) bool {
	switch {
	case a.Comparable():
		return a.Equal(b)
	case a.Kind() == reflect.Struct:
		for i := range a.NumField() {
			if !equal(a.Field(i), b.Field(i)) {
				return false
			}
		}
		return true
	case a.Len() != b.Len():
		return false
	}
	for i := range a.Len() {
		if !equal(a.Index(i), b.Index(i)) {
			return false
		}
	}
	return true
}
