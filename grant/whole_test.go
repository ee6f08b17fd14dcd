package grant_test

import (
	"fmt"
	"reflect"
	"slices"
	"testing"

	"toll/api"
	"toll/grant"
	"toll/object"
)

// P11.3, R3, R4, and all calls held against the chapter's words.

// letsByWords is the chapter's words of grants said once more.
func letsByWords(o api.Object, a ask) bool {
	if o.Ref.Kind != 7 || !object.May(o) || o.Ref.Space != a.to.Space {
		return false
	}
	var comes, goes int
	for _, s := range o.From {
		if s.Kind == a.kind && s.Space == a.space {
			comes++
		}
	}
	for _, s := range o.To {
		if s.Kind == a.to.Kind && (len(s.Name) == 0 || s.Name == a.to.Name) {
			goes++
		}
	}
	return comes > 0 && goes > 0
}

// checkWords: is all that is said of a list, and what is asked, what the words say?
func checkWords(t *testing.T, l []api.Object, a ask) bool {
	t.Helper()
	var want []api.Ref
	for _, o := range l {
		let := letsByWords(o, a)
		if lets(o, a) != let {
			t.Fatalf("Lets of %s to %s is %t", brief(o), brief(a), !let)
		}
		if let {
			want = append(want, o.Ref)
		}
	}
	if got := by(l, a); !slices.Equal(got, want) {
		t.Fatalf("By of %s to %s is %v, not %v", brief(l), brief(a), got, want)
	}
	yes := len(want) > 0 || a.to.Space == a.space
	if permits(l, a) != yes {
		t.Fatalf("Permits of %s to %s is %t", brief(l), brief(a), !yes)
	}
	return len(want) > 0
}

// upTo is all lists of at most n out of some.
func upTo[T any](n int, some []T) [][]T {
	out := [][]T{nil}
	last := out
	for range n {
		var next [][]T
		for _, l := range last {
			for _, x := range some {
				next = append(next, append(slices.Clip(l), x))
			}
		}
		last = next
		out = append(out, next...)
	}
	return out
}

// asks is whatever can be asked of kinds, spaces, and names.
func asks(kinds []int, spaces, names []string) []ask {
	var out []ask
	for _, kind := range kinds {
		for _, space := range spaces {
			for _, target := range kinds {
				for _, there := range spaces {
					for _, name := range names {
						out = append(out, ask{kind, space, ref(target, there, name)})
					}
				}
			}
		}
	}
	return out
}

// TestLetsByWords has all grants of at most two sides each out of a few.
func TestLetsByWords(t *testing.T) {
	froms := upTo(2, []api.Side{from(3, "web"), from(6, "web"), from(6, "app"), from(0, "web"), {Kind: 6, Space: "web", Name: "api"}})
	tos := upTo(2, []api.Side{to(3, ""), to(3, "api"), to(6, ""), to(6, "db"), to(0, "api"), {Kind: 3, Space: "app", Name: "api"}})
	asked := asks([]int{0, 3, 6}, []string{"", "web", "app"}, []string{"", "api", "db"})
	var let, not int
	for _, space := range []string{"app", ""} {
		for _, f := range froms {
			for _, s := range tos {
				o := made(space, "let", f, s)
				for _, a := range asked {
					if want := letsByWords(o, a); lets(o, a) != want {
						t.Fatalf("Lets of %s to %s is %t", brief(o), brief(a), !want)
					} else if want {
						let++
					} else {
						not++
					}
				}
			}
		}
	}
	if let < 1000 || not < 1000 {
		t.Errorf("so many let it: %d, and not: %d", let, not)
	}
}

// some is a few objects, of which some let something, and some have what others have, but for one part.
func some() []api.Object {
	bad := plain()
	bad.Ports = []int{80}
	elsewhere := plain()
	elsewhere.Ref.Space = "web"
	return []api.Object{
		plain(), bad, elsewhere,
		made("app", "all", []api.Side{from(6, "ops"), from(6, "web")}, []api.Side{to(4, ""), to(3, "")}),
		made("app", "db", []api.Side{from(5, "web"), from(6, "web")}, []api.Side{to(3, "db")}),
		made("web", "back", []api.Side{from(6, "app"), from(5, "web")}, []api.Side{to(3, ""), to(4, "api")}),
		{Ref: ref(3, "app", "api"), Ports: []int{80}, From: plain().From, To: plain().To},
		objects()[5],
	}
}

func someAsks() []ask {
	return asks([]int{3, 6, 5, 1}, []string{"app", "web", "ops", ""}, []string{"api", "db"})
}

func TestListsByWords(t *testing.T) {
	var let, not int
	for _, l := range upTo(2, some()) {
		for _, a := range someAsks() {
			if checkWords(t, l, a) {
				let++
			} else {
				not++
			}
		}
	}
	for _, l := range upTo(4, some()[:5]) {
		checkWords(t, l, routes(appAPI()))
		checkWords(t, l, ask{5, "web", ref(3, "app", "db")})
	}
	if let < 100 || not < 100 {
		t.Errorf("so many let it: %d, and not: %d", let, not)
	}
}

// TestFindByWords: it is found where there is one, and none of that ref is ahead of it.
func TestFindByWords(t *testing.T) {
	for _, l := range upTo(3, some()) {
		for i := range l {
			// Of one ref each has something else.
			l[i].Hosts = []string{fmt.Sprint("h", i)}
		}
		for _, o := range some() {
			at := slices.IndexFunc(l, func(x api.Object) bool { return x.Ref == o.Ref })
			checkFind(t, l, o.Ref, at)
		}
	}
}

// TestMoreObjects: with more objects no less is permitted, and without those that let it nothing is, but in its own space.
func TestMoreObjects(t *testing.T) {
	for _, l := range upTo(2, some()) {
		for _, a := range someAsks() {
			was := permits(l, a)
			for _, o := range some() {
				for i := range len(l) + 1 {
					if more := slices.Insert(slices.Clone(l), i, o); was && !permits(more, a) {
						t.Fatalf("with %s less is permitted to %s", brief(o), brief(a))
					}
				}
			}
			var without []api.Object
			refs := by(l, a)
			for _, o := range l {
				if !lets(o, a) {
					without = append(without, o)
				}
			}
			if permits(without, a) != (a.space == a.to.Space) || len(by(without, a)) != 0 || len(without)+len(refs) != len(l) {
				t.Fatalf("without those that let it %s is permitted to %s", brief(a.to), brief(a))
			}
			if was != (len(refs) > 0 || a.space == a.to.Space) {
				t.Fatalf("Permits to %s is %t, By is %v", brief(a), was, refs)
			}
		}
	}
}

// TestAllNames: what is permitted by a grant to all names is so for each.
func TestAllNames(t *testing.T) {
	l := []api.Object{one(from(6, "web"), to(3, ""))}
	for _, name := range append([]string{"api", "db", "a.b", "x"}, noTexts...) {
		a := routes(ref(3, "app", name))
		if !lets(l[0], a) || !permits(l, a) || !slices.Equal(by(l, a), []api.Ref{l[0].Ref}) {
			t.Errorf("%.40q is not permitted", name)
		}
		// By a grant to a name it is for that one alone.
		if named := one(from(6, "web"), to(3, "x")); lets(named, a) != (name == "x") {
			t.Errorf("by a grant to x %.40q is permitted", name)
		}
	}
}

// roomy is a value with lists of its own, each with room behind its end, that holds what is in the list.
func roomy[T any](x T) T { return deep(reflect.ValueOf(x), 1).Interface().(T) }

// own is a value with lists of its own.
func own[T any](x T) T { return deep(reflect.ValueOf(x), 0).Interface().(T) }

func deep(v reflect.Value, room int) reflect.Value {
	out := reflect.New(v.Type()).Elem()
	out.Set(v)
	switch v.Kind() {
	case reflect.Struct:
		for i := range v.NumField() {
			out.Field(i).Set(deep(v.Field(i), room))
		}
	case reflect.Slice:
		n := v.Len()
		out.Set(reflect.MakeSlice(v.Type(), n*(1+room), n*(1+room)))
		for i := range n * (1 + room) {
			out.Index(i).Set(deep(v.Index(i%n), room))
		}
		out.SetLen(n)
	}
	return out
}

// whole is a value of which each list goes on to the end of its room.
func whole[T any](x T) T {
	v := reflect.ValueOf(&x).Elem()
	spread(v)
	return x
}

func spread(v reflect.Value) {
	switch v.Kind() {
	case reflect.Struct:
		for i := range v.NumField() {
			spread(v.Field(i))
		}
	case reflect.Slice:
		v.Set(reflect.AppendSlice(reflect.MakeSlice(v.Type(), 0, v.Cap()), v.Slice(0, v.Cap())))
		for i := range v.Len() {
			spread(v.Index(i))
		}
	}
}

// spoil writes over each list of a value, up to the end of its room.
func spoil(v reflect.Value) {
	switch v.Kind() {
	case reflect.Struct:
		for i := range v.NumField() {
			spoil(v.Field(i))
		}
	case reflect.Slice:
		for i := range v.Len() {
			spoil(v.Index(i))
		}
		all := v.Slice(0, v.Cap())
		for i := range all.Len() {
			all.Index(i).SetZero()
		}
	}
}

// TestNothingIsShared: what is handed in stays as it was, whatever is asked, and whatever is done to what is answered.
func TestNothingIsShared(t *testing.T) {
	l := roomy(append(objects(), some()...))
	kept := own(whole(l))
	for _, o := range l {
		for i := range 2 {
			got, there := grant.Find(l, o.Ref)
			if first, _ := grant.Find(l, o.Ref); !there || got.Ref != o.Ref || !alike(got, first) {
				t.Fatalf("Find of %s, for the time %d, is %s", brief(o.Ref), i, brief(got))
			}
			spoil(reflect.ValueOf(&got).Elem())
		}
		grant.Near(o.Ref, "web")
		if !alike(whole(l), kept) {
			t.Fatalf("behind Find of %s what was handed in is another one", brief(o.Ref))
		}
	}
	for _, a := range someAsks() {
		for _, o := range l {
			lets(o, a)
		}
		permits(l, a)
		first, second := by(l, a), by(l, a)
		kept := slices.Clone(second)
		spoil(reflect.ValueOf(&first).Elem())
		if !slices.Equal(second, kept) {
			t.Fatalf("two answers of By to %s have a list in common", brief(a))
		}
	}
	if !alike(whole(l), kept) {
		t.Error("what was handed in is another one")
	}
}

// TestFoundHasListsOfItsOwn: also where one that was handed in has one list twice.
func TestFoundHasListsOfItsOwn(t *testing.T) {
	o := plain()
	o.To = o.From
	got, _ := grant.Find([]api.Object{o}, o.Ref)
	got.From[0].Space = "changed"
	if got.To[0].Space != "web" || o.From[0].Space != "web" {
		t.Errorf("one list of what is found changed another one: %s", brief(got))
	}
	got.To = append(got.To[:0], api.Side{})
	if o.To[0].Space != "web" {
		t.Error("one list of what is found changed what was handed in")
	}
}

// TestOnceMore: what was asked in between has nothing to do with what is answered.
func TestOnceMore(t *testing.T) {
	l := some()
	for range 2 {
		for _, a := range someAsks() {
			checkWords(t, l, a)
			checkWords(t, nil, a)
		}
		for i, o := range l[2:] {
			checkFind(t, l, o.Ref, i+2)
			checkFind(t, nil, o.Ref, -1)
		}
	}
}

// FuzzGrant holds the calls against the words at whatever numbers and texts: none panics, and what they answer fits together.
func FuzzGrant(f *testing.F) {
	f.Add(7, 6, 3, 6, 3, "app", "web", "api", "app", "web", "api")
	f.Add(7, 6, 3, 6, 3, "app", "web", "", "app", "web", "db")
	f.Add(7, 5, 4, 6, 3, "app", "ops", "a.b", "web", "web", "api")
	f.Add(6, 0, 8, 0, 8, "", "", "", "", "", "")
	f.Add(-1, 1, 2, 1<<32+6, -3, "\xff", "A", " ", ".", "a/b", "*")
	f.Fuzz(func(t *testing.T, kind, a, b, asked, target int, space, comes, named, there, at, name string) {
		o := api.Object{Ref: ref(kind, space, "let"), From: []api.Side{from(a, comes)}, To: []api.Side{to(b, named)}}
		g := o
		g.Ref.Kind = api.GrantK
		g.From, g.To = append([]api.Side{from(asked, at)}, o.From...), append([]api.Side{to(target, "")}, o.To...)
		one := g
		one.From, one.To = g.From[1:], g.To[1:]
		for _, q := range []ask{{asked, at, ref(target, there, name)}, {a, comes, ref(b, space, named)}, {a, comes, ref(b, space, name)}, {a, space, ref(b, space, named)}} {
			for _, l := range [][]api.Object{{o}, {g}, {one}, {o, g, one, plain()}, {one, plain(), g, one}} {
				checkWords(t, l, q)
				checkFind(t, l, q.to, slices.IndexFunc(l, func(x api.Object) bool { return x.Ref == q.to }))
				checkFind(t, l, l[0].Ref, 0)
			}
			want := q.to
			if want.Space == "" && want.Kind != 1 && want.Kind != 2 {
				want.Space = at
			}
			if got := grant.Near(q.to, at); got != want {
				t.Errorf("Near of %s to %q is %s", brief(q.to), at, brief(got))
			}
		}
	})
}
