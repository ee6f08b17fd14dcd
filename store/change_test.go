package store_test

import (
	"fmt"
	"math"
	"slices"
	"testing"

	"toll/api"
	"toll/store"
)

// P10.2 to P10.4.

// deed is a call that may change a store: its name, what is handed in beside the store, the call, and what the chapter's words say of it.
type deed struct {
	name      string
	object    api.Object
	ref       api.Ref
	version   int
	conds     []api.Cond
	do, words func(s api.Store) (api.Store, api.Errno)
}

func (d deed) text() string {
	return fmt.Sprintf("%s of %s and %v by %d, with %d conds", d.name, brief(d.object), d.ref, d.version, len(d.conds))
}

func create(o api.Object) deed {
	return deed{
		name: "Create", object: o,
		do:    func(s api.Store) (api.Store, api.Errno) { return store.Create(s, o) },
		words: func(s api.Store) (api.Store, api.Errno) { return createByWords(s, o) },
	}
}

func update(o api.Object, version int) deed {
	return deed{
		name: "Update", object: o, version: version,
		do:    func(s api.Store) (api.Store, api.Errno) { return store.Update(s, o, version) },
		words: func(s api.Store) (api.Store, api.Errno) { return updateByWords(s, o, version) },
	}
}

func remove(r api.Ref, version int) deed {
	return deed{
		name: "Delete", ref: r, version: version,
		do:    func(s api.Store) (api.Store, api.Errno) { return store.Delete(s, r, version) },
		words: func(s api.Store) (api.Store, api.Errno) { return deleteByWords(s, r, version) },
	}
}

func report(r api.Ref, version int, c []api.Cond) deed {
	return deed{
		name: "Report", ref: r, version: version, conds: c,
		do:    func(s api.Store) (api.Store, api.Errno) { return store.Report(s, r, version, c) },
		words: func(s api.Store) (api.Store, api.Errno) { return reportByWords(s, r, version, c) },
	}
}

// ofThing is all deeds with the ref of a thing that is there, or of one that is like it.
func ofThing(x api.Stored) []deed {
	r, wrong := x.O.Ref, x.O
	wrong.Class += " "
	out := []deed{create(x.O), create(another(x.O)), create(wrong)}
	for _, v := range []int{0, x.Version, x.Version + 1, x.Version - 1, x.Born, x.Gen, -x.Version, -1, math.MaxInt, math.MinInt, x.Version + 1<<32} {
		out = append(out, update(x.O, v), update(another(x.O), v), update(wrong, v), remove(r, v))
		for _, c := range [][]api.Cond{nil, {}, x.Conds, append(slices.Clone(x.Conds), api.Cond{}), conds(1), make([]api.Cond, 1), conds(40), conds(41)} {
			out = append(out, report(r, v, c))
		}
	}
	return out
}

// ofNone is all deeds with a ref of which there is nothing.
func ofNone(o api.Object) []deed {
	out := []deed{create(o)}
	for _, v := range []int{0, 1, -1, math.MaxInt} {
		out = append(out, update(o, v), remove(o.Ref, v), report(o.Ref, v, nil), report(o.Ref, v, conds(40)), report(o.Ref, v, conds(41)))
	}
	return out
}

// deeds is calls that fit a store: with things that it has, and with others.
func deeds(s api.Store) []deed {
	var out []deed
	for i, x := range s.L {
		if len(s.L) <= 10 || i%13 == 0 || i >= 39 {
			out = append(out, ofThing(x)...)
		}
	}
	for _, r := range noRefs() {
		out = append(out, ofNone(api.Object{Ref: r, Good: true})...)
	}
	return append(out, ofNone(api.Object{})...)
}

// someDeeds is fewer of them: of whatever they are asked, a store that may not be comes first.
func someDeeds(s api.Store) []deed {
	x, o := api.Stored{O: class("ours", true)}, class("new", true)
	if len(s.L) > 0 {
		x = s.L[0]
	}
	return []deed{
		create(o), create(x.O), create(api.Object{}),
		update(o, 0), update(x.O, 0), update(another(x.O), x.Version), update(x.O, x.Version+1), update(api.Object{}, 0),
		remove(o.Ref, 0), remove(x.O.Ref, x.Version), remove(x.O.Ref, x.Version+1),
		report(o.Ref, 0, nil), report(x.O.Ref, x.Version, x.Conds), report(x.O.Ref, x.Version, conds(40)), report(x.O.Ref, x.Version, conds(41)), report(x.O.Ref, 0, nil),
	}
}

// checkDeed holds a call against the words, and is what it answers.
func checkDeed(t *testing.T, s api.Store, d deed) (api.Store, api.Errno) {
	t.Helper()
	got, err := d.do(s)
	want, wantErr := d.words(s)
	if err != wantErr || !alike(got, want) {
		t.Fatalf("%s: error %d, not %d\nin  %s\nout %s\nnot %s", d.text(), err, wantErr, brief(s), brief(got), brief(want))
	}
	return got, err
}

func TestDeeds(t *testing.T) {
	seen := map[api.Errno]int{}
	for _, s := range stores() {
		for _, d := range deeds(s) {
			got, err := checkDeed(t, s, d)
			seen[err]++
			if store.Check(got) != api.OK {
				t.Errorf("behind %s the store may not be: %s", d.text(), brief(got))
			}
			if err != api.OK && !store.Same(got, s) {
				t.Errorf("%s answers %d, and changes the store", d.text(), err)
			}
		}
	}
	for _, err := range []api.Errno{api.OK, api.ErrArg, api.ErrNone, api.ErrThere, api.ErrLarge, api.ErrStale} {
		if seen[err] < 20 {
			t.Errorf("error %d was answered but %d times", err, seen[err])
		}
	}
}

func TestDeedsOfWrongStores(t *testing.T) {
	all := wrongs()
	for _, name := range names(all) {
		s := all[name]
		for _, d := range someDeeds(s) {
			if got, err := d.do(s); err != api.ErrArg || !alike(got, s) {
				t.Fatalf("%s: %s: %d, %s", name, d.text(), err, brief(got))
			}
		}
	}
}

// chain is a store, and what is done to it, one call behind the other.
type chain struct {
	t *testing.T
	s api.Store
}

// must is a call that answers that error, and changes the store to one of that version.
func (c *chain) must(next api.Store, err, want api.Errno, version int) {
	c.t.Helper()
	if err != want || next.Version != version || (err != api.OK || version == c.s.Version) && !alike(next, c.s) {
		c.t.Fatalf("error %d, not %d; version %d, not %d", err, want, next.Version, version)
	}
	c.s = next
}

// has: is there a thing of that ref, of these versions, and with so many conds?
func (c *chain) has(o api.Object, version, gen, born, conds int) {
	c.t.Helper()
	x, err := store.Get(c.s, o.Ref)
	if err != api.OK || !alike(x.O, o) || x.Version != version || x.Gen != gen || x.Born != born || len(x.Conds) != conds {
		c.t.Fatalf("Get: %s, %d", brief(x), err)
	}
}

// TestLife has things made, changed, told of, and gone.
func TestLife(t *testing.T) {
	c := &chain{t: t}
	a, b := class("a", true), class("b", true)
	a2, b2 := class("a", false), class("b", false)
	next, err := store.Create(c.s, b)
	c.must(next, err, api.OK, 1)
	next, err = store.Create(c.s, a)
	c.must(next, err, api.OK, 2)
	next, err = store.Create(c.s, a)
	c.must(next, err, api.ErrThere, 2)
	next, err = store.Create(c.s, a2)
	c.must(next, err, api.ErrThere, 2)
	c.has(a, 2, 1, 2, 0)
	c.has(b, 1, 1, 1, 0)
	next, err = store.Update(c.s, a2, 0)
	c.must(next, err, api.OK, 3)
	c.has(a2, 3, 2, 2, 0)
	next, err = store.Update(c.s, a, 2)
	c.must(next, err, api.ErrStale, 3)
	next, err = store.Report(c.s, a.Ref, 2, conds(2))
	c.must(next, err, api.ErrStale, 3)
	next, err = store.Report(c.s, a.Ref, 0, conds(2))
	c.must(next, err, api.ErrStale, 3)
	next, err = store.Report(c.s, a.Ref, 3, conds(2))
	c.must(next, err, api.OK, 4)
	c.has(a2, 4, 2, 2, 2)
	next, err = store.Report(c.s, a.Ref, 4, conds(2))
	c.must(next, err, api.OK, 4)
	next, err = store.Update(c.s, a, 4)
	c.must(next, err, api.OK, 5)
	c.has(a, 5, 3, 2, 2)
	next, err = store.Report(c.s, a.Ref, 5, nil)
	c.must(next, err, api.OK, 6)
	c.has(a, 6, 3, 2, 0)
	next, err = store.Update(c.s, b2, 1)
	c.must(next, err, api.OK, 7)
	c.has(b2, 7, 2, 1, 0)
	next, err = store.Delete(c.s, a.Ref, 5)
	c.must(next, err, api.ErrStale, 7)
	next, err = store.Delete(c.s, a.Ref, 6)
	c.must(next, err, api.OK, 8)
	for _, v := range []int{0, 6, 8} {
		next, err = store.Delete(c.s, a.Ref, v)
		c.must(next, err, api.ErrNone, 8)
		next, err = store.Update(c.s, a, v)
		c.must(next, err, api.ErrNone, 8)
		next, err = store.Report(c.s, a.Ref, v, nil)
		c.must(next, err, api.ErrNone, 8)
	}
	// What is made anew has nothing of what there was.
	next, err = store.Create(c.s, a2)
	c.must(next, err, api.OK, 9)
	c.has(a2, 9, 1, 9, 0)
	next, err = store.Delete(c.s, b.Ref, 0)
	c.must(next, err, api.OK, 10)
	next, err = store.Delete(c.s, a.Ref, 0)
	c.must(next, err, api.OK, 11)
	refs := []api.Ref{b.Ref, a.Ref, a.Ref, a.Ref, a.Ref, a.Ref, b.Ref, a.Ref, a.Ref, b.Ref, a.Ref}
	if l, err := store.Since(c.s, 0); err != api.OK || len(l) != len(refs) || len(c.s.L) != 0 {
		t.Errorf("Since: %v, %d", l, err)
	}
	for i, e := range c.s.Log {
		if e != (api.Event{Version: i + 1, Ref: refs[i]}) {
			t.Errorf("the event at %d is %v", i, e)
		}
	}
}

// TestOrderOfErrors has what more than one error fits.
func TestOrderOfErrors(t *testing.T) {
	few, many := full(100), full(api.MaxVersion)
	spare := full(api.MaxVersion)
	spare.L = spare.L[1:]
	wrong := full(100)
	wrong.Log = log(99, 100)
	there, new := few.L[5].O, class("new", true)
	r, v := there.Ref, few.L[5].Version
	bad := there
	bad.Class = "x"
	most, more := conds(40), conds(41)
	is := func(want api.Errno) func(api.Store, api.Errno) {
		t.Helper()
		return func(_ api.Store, got api.Errno) {
			t.Helper()
			if got != want {
				t.Errorf("error %d, not %d", got, want)
			}
		}
	}
	is(api.ErrArg)(store.Create(wrong, there))
	is(api.ErrArg)(store.Create(many, bad))
	is(api.ErrThere)(store.Create(few, there))
	is(api.ErrThere)(store.Create(many, there))
	is(api.ErrThere)(store.Create(many, another(there)))
	is(api.ErrLarge)(store.Create(few, new))
	is(api.ErrLarge)(store.Create(many, new))
	is(api.ErrLarge)(store.Create(spare, new))
	is(api.ErrArg)(store.Update(wrong, new, v))
	is(api.ErrArg)(store.Update(few, bad, v+1))
	is(api.ErrArg)(store.Update(many, api.Object{}, 0))
	is(api.ErrNone)(store.Update(many, new, v))
	is(api.ErrNone)(store.Update(many, new, -1))
	is(api.ErrStale)(store.Update(many, there, v+1))
	is(api.ErrStale)(store.Update(many, another(there), v+1))
	is(api.OK)(store.Update(many, there, v))
	is(api.OK)(store.Update(many, there, 0))
	is(api.ErrLarge)(store.Update(many, another(there), v))
	is(api.ErrLarge)(store.Update(many, another(there), 0))
	is(api.OK)(store.Update(few, another(there), v))
	is(api.ErrArg)(store.Delete(wrong, new.Ref, v))
	is(api.ErrNone)(store.Delete(many, new.Ref, v))
	is(api.ErrStale)(store.Delete(many, r, v+1))
	is(api.ErrLarge)(store.Delete(many, r, v))
	is(api.ErrLarge)(store.Delete(many, r, 0))
	is(api.OK)(store.Delete(few, r, v))
	is(api.ErrArg)(store.Report(wrong, new.Ref, 0, nil))
	is(api.ErrArg)(store.Report(many, new.Ref, v, more))
	is(api.ErrArg)(store.Report(many, r, v+1, more))
	is(api.ErrNone)(store.Report(many, new.Ref, v, most))
	is(api.ErrNone)(store.Report(many, api.Ref{}, 0, nil))
	is(api.ErrStale)(store.Report(many, r, 0, nil))
	is(api.ErrStale)(store.Report(many, r, v+1, most))
	is(api.OK)(store.Report(many, r, v, nil))
	is(api.ErrLarge)(store.Report(many, r, v, most))
	is(api.OK)(store.Report(few, r, v, most))
}

// TestCreateInEachPlace has a full store made of things in each of several orders, and its refs rise all along.
func TestCreateInEachPlace(t *testing.T) {
	for step := 1; step < 41; step++ {
		var s api.Store
		for i := range 41 {
			k := i * step % 41 // each of 0 to 40 once
			if k == 40 {
				continue
			}
			o := class(fmt.Sprint("c", 10+k), true)
			next, err := store.Create(s, o)
			if err != api.OK || store.Check(next) != api.OK || len(next.L) != len(s.L)+1 {
				t.Fatalf("Create of %s: %d", o.Ref.Name, err)
			}
			s = next
		}
		if !alike(store.Objects(s), everyClass()) {
			t.Fatalf("the objects are %s", brief(store.Objects(s)))
		}
		for _, name := range []string{"a", "c", "c100", "z"} {
			if next, err := store.Create(s, class(name, true)); err != api.ErrLarge || !alike(next, s) {
				t.Fatalf("Create of one more: %d", err)
			}
		}
	}
}

// everyClass is the classes of a full store.
func everyClass() []api.Object {
	var out []api.Object
	for i := range 40 {
		out = append(out, class(fmt.Sprint("c", 10+i), true))
	}
	return out
}

// TestLog: up to the sixteenth change nothing is left out of the log, from the seventeenth on always the first event.
func TestLog(t *testing.T) {
	for _, start := range []int{0, 1, 7, 1000, api.MaxVersion - 40} {
		s := api.Store{Version: start, Floor: start}
		s, _ = store.Create(s, class("a", true))
		for n := 1; n <= 40; n++ {
			if n > 1 {
				name := fmt.Sprint("b", n)
				s, _ = store.Create(s, class(name, true))
			}
			floor := start + max(0, n-16)
			if s.Version != start+n || s.Floor != floor || len(s.Log) != min(n, 16) || s.Log[0].Version != floor+1 || s.Log[len(s.Log)-1].Version != start+n {
				t.Fatalf("behind %d changes from %d on: %d, %d, %v", n, start, s.Version, s.Floor, s.Log)
			}
			if floor > 0 {
				if l, err := store.Since(s, floor-1); err != api.ErrOld || len(l) > 0 {
					t.Errorf("Since ahead of the floor: %v, %d", l, err)
				}
			}
			if l, err := store.Since(s, floor); err != api.OK || !slices.Equal(l, s.Log) {
				t.Errorf("Since the floor: %v, %d", l, err)
			}
		}
	}
}

// TestFillVersions has changes up to MaxVersion, and one more.
func TestFillVersions(t *testing.T) {
	for name, do := range map[string]func(s api.Store, i int) (api.Store, api.Errno){
		"Create": func(s api.Store, i int) (api.Store, api.Errno) {
			return store.Create(s, class(fmt.Sprint("n", i), true))
		},
		"Update": func(s api.Store, i int) (api.Store, api.Errno) {
			return store.Update(s, api.Object{Ref: ref(api.ServiceK, "web", "api"), Ports: []int{i + 1}}, 0)
		},
		"Delete": func(s api.Store, i int) (api.Store, api.Errno) { return store.Delete(s, objects()[i].Ref, 0) },
		"Report": func(s api.Store, i int) (api.Store, api.Errno) {
			return store.Report(s, ref(1, "", "ours"), s.L[0].Version, conds(5+i))
		},
	} {
		s := at(api.MaxVersion-3, 14)
		for i := range 5 {
			next, err := do(s, i)
			if i < 3 && (err != api.OK || next.Version != api.MaxVersion-2+i || store.Check(next) != api.OK) || i >= 3 && (err != api.ErrLarge || !alike(next, s)) {
				t.Errorf("%s: change %d: %d, version %d", name, i, err, next.Version)
			}
			s = next
		}
		if s.Floor != api.MaxVersion-16 {
			t.Errorf("%s: the floor is %d", name, s.Floor)
		}
	}
}

// TestReportEachCond: conds that differ in one place are others, and in another order, too.
func TestReportEachCond(t *testing.T) {
	s := ordinary()
	x := s.L[3]
	kept := x.Conds
	for i, c := range [][]api.Cond{
		kept[:2], kept[1:], {kept[0], kept[2], kept[1]}, {kept[0], kept[0], kept[2]}, append(slices.Clone(kept), kept[2]), nil, {}, make([]api.Cond, 3),
	} {
		next, err := store.Report(s, x.O.Ref, x.Version, c)
		got, _ := store.Get(next, x.O.Ref)
		if err != api.OK || next.Version != 31 || !alike(got.Conds, c) || got.Version != 31 || got.Gen != x.Gen || got.Born != x.Born {
			t.Errorf("conds %d: %d, %s", i, err, brief(got))
		}
	}
	for i, change := range []func(c *api.Cond){
		func(c *api.Cond) { c.Part += "x" }, func(c *api.Cond) { c.Type += "x" }, func(c *api.Cond) { c.Reason += "x" },
		func(c *api.Cond) { c.True = !c.True }, func(c *api.Cond) { c.N++ }, func(c *api.Cond) { c.Gen++ }, func(c *api.Cond) {},
	} {
		for k := range kept {
			c := slices.Clone(kept)
			change(&c[k])
			next, err := store.Report(s, x.O.Ref, x.Version, c)
			if err != api.OK || (next.Version == 31) != (i < 6) || !alike(next.L[3].Conds, c) {
				t.Errorf("change %d of cond %d: %d, version %d", i, k, err, next.Version)
			}
		}
	}
}

// TestOthersStay: a change has nothing to do with other things.
func TestOthersStay(t *testing.T) {
	s := ordinary()
	for i, x := range s.L {
		for name, do := range map[string]func() (api.Store, api.Errno){
			"Update": func() (api.Store, api.Errno) { return store.Update(s, another(x.O), x.Version) },
			"Delete": func() (api.Store, api.Errno) { return store.Delete(s, x.O.Ref, x.Version) },
			"Report": func() (api.Store, api.Errno) { return store.Report(s, x.O.Ref, x.Version, conds(9)) },
		} {
			next, err := do()
			l := next.L
			if name != "Delete" {
				l = slices.Delete(slices.Clone(l), i, i+1)
			}
			if want := slices.Delete(slices.Clone(s.L), i, i+1); err != api.OK || !alike(l, want) {
				t.Errorf("%s of thing %d: %d, %s", name, i, err, brief(next))
			}
			if e := next.Log[len(next.Log)-1]; e != (api.Event{Version: 31, Ref: x.O.Ref}) {
				t.Errorf("%s of thing %d: the event is %v", name, i, e)
			}
		}
	}
}
