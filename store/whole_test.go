package store_test

import (
	"fmt"
	"maps"
	"math/rand/v2"
	"reflect"
	"slices"
	"testing"

	"toll/api"
	"toll/object"
	"toll/store"
)

// P10.6, R3, R4, and all calls held against the chapter's words at whatever is done.

// watcher is one who reads events, and gets what they name.
type watcher struct {
	at  int
	has map[api.Ref]api.Stored
}

// read has a watcher read on, and is whether he had to begin anew.
func (w *watcher) read(t *testing.T, s api.Store) bool {
	t.Helper()
	l, err := store.Since(s, w.at)
	if err == api.ErrOld && w.at < s.Floor {
		w.at, w.has = s.Version, things(s)
		return true
	}
	if err != api.OK {
		t.Fatalf("Since of %d: %d", w.at, err)
	}
	for _, e := range l {
		x, err := store.Get(s, e.Ref)
		switch err {
		case api.OK:
			w.has[e.Ref] = x
		case api.ErrNone:
			delete(w.has, e.Ref)
		default:
			t.Fatalf("Get of %v: %d", e.Ref, err)
		}
	}
	w.at = s.Version
	if !alike(slices.Collect(inOrder(w.has)), s.L) {
		t.Fatalf("who read from a version on has %s, not %s", brief(w.has), brief(s.L))
	}
	return false
}

// inOrder is the things of a map by their refs' order.
func inOrder(m map[api.Ref]api.Stored) func(yield func(api.Stored) bool) {
	return func(yield func(api.Stored) bool) {
		for _, r := range slices.SortedFunc(maps.Keys(m), object.Order) {
			if !yield(m[r]) {
				return
			}
		}
	}
}

// checkGens: is each Gen more, by one, just where the object was changed, and each version the store's just where the thing was?
func checkGens(t *testing.T, from, to api.Store) {
	t.Helper()
	before := things(from)
	for _, x := range to.L {
		was, there := before[x.O.Ref]
		if !there || was.Born != x.Born {
			if x.Gen != 1 || x.Born != to.Version || x.Version != to.Version || len(x.Conds) > 0 {
				t.Fatalf("a thing is new, and is %s", brief(x))
			}
			continue
		}
		want := was.Gen
		if !alike(was.O, x.O) {
			want++
		}
		changed := !alike(was.O, x.O) || !alike(was.Conds, x.Conds)
		if x.Gen != want || changed && x.Version != to.Version || !changed && x.Version != was.Version {
			t.Fatalf("%s became %s", brief(was), brief(x))
		}
	}
}

// chance is a call that chance has done to a store, of many refs or of few.
func chance(r *rand.Rand, s api.Store, refs int) deed {
	o := class(fmt.Sprint("c", 10+r.IntN(refs)), r.IntN(2) == 0)
	if r.IntN(3) == 0 {
		o = objects()[r.IntN(8)]
		if r.IntN(2) == 0 {
			o = another(o)
		}
	}
	version := 0
	if x, there := things(s)[o.Ref]; there && r.IntN(8) > 0 {
		version = x.Version
	} else if s.Version > 0 && r.IntN(4) == 0 {
		version = r.IntN(s.Version + 1)
	}
	switch r.IntN(8) {
	case 0, 1, 2:
		return create(o)
	case 3, 4:
		return update(o, version)
	case 5:
		return remove(o.Ref, version)
	}
	return report(o.Ref, version, conds(r.IntN(3)))
}

// TestWalks has stores changed by chance, that is the same each time, and watchers who read now and then.
func TestWalks(t *testing.T) {
	var anew, read, most int
	for seed := range uint64(12) {
		r := rand.New(rand.NewPCG(seed, 10))
		var s api.Store
		watchers := make([]watcher, 3)
		for i := range watchers {
			watchers[i].has = map[api.Ref]api.Stored{}
		}
		for range 300 {
			d := chance(r, s, 3+int(seed)*10)
			next, err := checkDeed(t, s, d)
			if store.Check(next) != api.OK || err != api.OK && !store.Same(next, s) {
				t.Fatalf("behind %s: error %d, %s", d.text(), err, brief(next))
			}
			if same := store.Same(next, s); same != (next.Version == s.Version) || !same && next.Version != s.Version+1 {
				t.Fatalf("behind %s the version is %d, not %d or one more", d.text(), next.Version, s.Version)
			}
			checkGens(t, s, next)
			s = next
			most = max(most, len(s.L))
			for i := range watchers {
				if r.IntN(1+i*12) > 0 {
					continue
				}
				if watchers[i].read(t, s) {
					anew++
				} else {
					read++
				}
			}
		}
	}
	if anew < 20 || read < 1000 || most < 40 {
		t.Errorf("so many began anew: %d, read on: %d; most things: %d", anew, read, most)
	}
}

// room is the memory of a list, up to the end of its room.
type room struct{ from, to uintptr }

// rooms is the memory of all lists of a value, all the way down.
func rooms(v reflect.Value) []room {
	var out []room
	switch v.Kind() {
	case reflect.Struct:
		for i := range v.NumField() {
			out = append(out, rooms(v.Field(i))...)
		}
	case reflect.Slice:
		if v.Cap() > 0 {
			out = append(out, room{v.Pointer(), v.Pointer() + uintptr(v.Cap())*v.Type().Elem().Size()})
		}
		for i := range v.Len() {
			out = append(out, rooms(v.Index(i))...)
		}
	}
	return out
}

// checkOwn: has an answer no list in common with what was handed in, nor two lists one?
func checkOwn(t *testing.T, name string, answer any, given ...any) {
	t.Helper()
	var others []room
	for _, x := range given {
		others = append(others, rooms(reflect.ValueOf(x))...)
	}
	for _, a := range rooms(reflect.ValueOf(answer)) {
		for _, b := range others {
			if a.from < b.to && b.from < a.to {
				t.Fatalf("the answer of %s has a list in common", name)
			}
		}
		others = append(others, a)
	}
}

// given is stores that are handed in with room behind each list, some of them with lists in common.
func given() map[string]api.Store {
	out := map[string]api.Store{}
	for i, s := range stores() {
		out[fmt.Sprint(i)] = roomy(s)
	}
	for name, s := range wrongs() {
		if len(s.L) < 50 {
			out[name] = roomy(s)
		}
	}
	one := roomy(ordinary())
	one.L[0].Conds, one.L[1].Conds, one.L[2].Conds = one.L[7].Conds, one.L[7].Conds, one.L[7].Conds
	one.L[3].O.Ports = one.L[2].O.Ports[1:]
	one.L[5].O.Listeners[1] = one.L[5].O.Listeners[0]
	one.L[5].O.Listeners[1].Name = "c"
	one.L[6].O.Rules = append(one.L[6].O.Rules, one.L[6].O.Rules[0])
	out["lists in common"] = one
	return out
}

// TestDeedsLeaveWhatTheyAreGiven: what is handed in is as it was, up to the end of its lists' room, and has no list in common with what is answered.
func TestDeedsLeaveWhatTheyAreGiven(t *testing.T) {
	all := given()
	for _, name := range names(all) {
		s := all[name]
		kept := plain(whole(s))
		for i, d := range append(someDeeds(s), fitting(s)...) {
			o, c := roomy(d.object), roomy(d.conds)
			var got api.Store
			switch d.name {
			case "Create":
				got, _ = store.Create(s, o)
			case "Update":
				got, _ = store.Update(s, o, d.version)
			case "Delete":
				got, _ = store.Delete(s, d.ref, d.version)
			case "Report":
				got, _ = store.Report(s, d.ref, d.version, c)
			}
			checkOwn(t, fmt.Sprint(name, ": ", d.text()), got, s, o, c)
			if !alike(o, d.object) || !alike(c, d.conds) || !alike(whole(o), whole(roomy(d.object))) || !alike(whole(c), whole(roomy(d.conds))) {
				t.Fatalf("%s: %s changes what is handed in", name, d.text())
			}
			if i%4 == 0 && !alike(whole(s), kept) {
				t.Fatalf("%s: %s, or one ahead of it, changes the store", name, d.text())
			}
		}
		if !alike(whole(s), kept) {
			t.Fatalf("%s: the store is changed", name)
		}
	}
}

// fitting is deeds with each thing of a store that change it, if it may be.
func fitting(s api.Store) []deed {
	var out []deed
	for i, x := range s.L {
		if i < 8 || i > 38 {
			out = append(out, update(another(x.O), 0), remove(x.O.Ref, 0), report(x.O.Ref, x.Version, conds(5)))
		}
	}
	for _, o := range []api.Object{objects()[5], objects()[6], class("zz", true), {Ref: ref(api.GatewayK, "web", "new"), Class: "c", Listeners: objects()[5].Listeners}} {
		out = append(out, create(o))
	}
	return out
}

// TestAsksLeaveWhatTheyAreGiven is the same of what changes nothing.
func TestAsksLeaveWhatTheyAreGiven(t *testing.T) {
	all := given()
	for _, name := range names(all) {
		s := all[name]
		kept := plain(whole(s))
		store.Check(s)
		store.Same(s, s)
		store.Same(s, ordinary())
		store.Same(ordinary(), s)
		checkOwn(t, name+": Objects", store.Objects(s), s)
		for _, r := range append(noRefs(), ref(1, "", "ours"), ref(6, "web", "shop"), ref(5, "web", "gw"), ref(1, "", "c10")) {
			x, _ := store.Get(s, r)
			checkOwn(t, name+": Get", x, s)
		}
		for _, v := range []int{-1, 0, s.Floor, s.Floor + 1, s.Version - 1, s.Version, s.Version + 1} {
			l, _ := store.Since(s, v)
			checkOwn(t, name+": Since", l, s)
		}
		if !alike(whole(s), kept) {
			t.Fatalf("%s: the store is changed", name)
		}
	}
}

// TestTwoFromOne: stores that are made of one have nothing to do with each other, nor with what is done to that, though it has room behind its lists.
func TestTwoFromOne(t *testing.T) {
	s := roomy(ordinary())
	s.L, s.Log = slices.Grow(s.L, 60), slices.Grow(s.Log, 60)
	kept := plain(s)
	var made, want []api.Store
	for _, d := range append(someDeeds(s), fitting(s)...) {
		got, _ := d.do(s)
		made = append(made, got)
		want = append(want, plain(got))
	}
	for i := range made {
		if !alike(made[i], want[i]) {
			t.Fatalf("the store at %d is changed by what was done behind it", i)
		}
	}
	if !alike(s, kept) {
		t.Error("the store that they are made of is changed")
	}
}

// TestOnceMore: what was asked in between has nothing to do with what is answered.
func TestOnceMore(t *testing.T) {
	s := ordinary()
	all := fitting(s)
	var first []api.Store
	for _, d := range all {
		got, _ := d.do(s)
		first = append(first, got)
	}
	for _, other := range stores() {
		for _, d := range someDeeds(other) {
			d.do(other)
		}
	}
	for i, d := range all {
		if got, _ := d.do(s); !alike(got, first[i]) {
			t.Fatalf("%s answers otherwise the second time", d.text())
		}
	}
}

// FuzzStore holds the calls against the words at whatever numbers and texts: none panics, and what they answer fits together.
func FuzzStore(f *testing.F) {
	f.Add(30, 20, 10, 5, 7, 2, 3, 7, 1, "", "ours", true)
	f.Add(1<<40-1, 1<<40-16, 15, 1, 1<<40-1, 1<<40-1, 40, 0, 5, "web", "gw", false)
	f.Add(1<<40, 1<<40, 0, 0, -1, 1, 41, -1, 0, "web", " ", true)
	f.Add(-1, -2, 1, 2, 1, 3, 0, 1, 6, "\xff", "a.b", true)
	f.Add(3, 0, 3, 1, 3, 3, 1, 3, 1, "", "a", false)
	f.Fuzz(func(t *testing.T, version, floor, events, born, own, gen, told, asked, kind int, space, name string, yes bool) {
		few := func(n int) int { return max(0, min(n, 50)) }
		s := api.Store{Version: version, Floor: floor, Log: log(floor, floor+few(events))}
		x := api.Stored{O: api.Object{Ref: ref(kind, space, name), Good: yes}, Born: born, Version: own, Gen: gen, Conds: conds(few(told))}
		for _, l := range [][]api.Stored{nil, {x}, {x, ordinary().L[7]}, {ordinary().L[0], x}, full(100).L} {
			s.L = l
			if (store.Check(s) == api.OK) != mayByWords(s) {
				t.Errorf("Check of %s is %d", brief(s), store.Check(s))
			}
			o := x.O
			o.Good = !yes
			for _, d := range []deed{
				create(x.O), create(class(name, yes)), update(x.O, asked), update(o, asked), update(o, 0), remove(x.O.Ref, asked), remove(x.O.Ref, 0),
				report(x.O.Ref, asked, nil), report(x.O.Ref, own, conds(few(asked))), report(x.O.Ref, own, conds(few(told))),
			} {
				next, err := checkDeed(t, s, d)
				if err == api.OK && store.Check(next) != api.OK {
					t.Errorf("behind %s the store may not be: %s", d.text(), brief(next))
				}
				if same := store.Same(next, s); same != alike(next, s) || err != api.OK && !same {
					t.Errorf("behind %s Same is %t", d.text(), same)
				}
			}
			got, err := store.Get(s, x.O.Ref)
			if want, there := things(s)[x.O.Ref]; mayByWords(s) && (there != (err == api.OK) || !alike(got, want)) {
				t.Errorf("Get: %s, %d", brief(got), err)
			}
			events, err := store.Since(s, asked)
			if err == api.OK && (asked < floor || asked > version || !slices.Equal(events, s.Log[asked-floor:])) || mayByWords(s) && (err == api.OK) != (floor <= asked && asked <= version) {
				t.Errorf("Since of %d: %v, %d", asked, events, err)
			}
		}
	})
}
