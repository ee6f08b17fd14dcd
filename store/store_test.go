package store_test

import (
	"fmt"
	"math"
	"reflect"
	"slices"
	"strings"
	"testing"

	"toll/api"
	"toll/object"
	"toll/store"
)

func ref(kind int, space, name string) api.Ref {
	return api.Ref{Kind: kind, Space: space, Name: name}
}

func class(name string, good bool) api.Object {
	return api.Object{Ref: ref(api.ClassK, "", name), Good: good}
}

// objects is an object of each kind, in order, each with lists, where its kind has some.
func objects() []api.Object {
	has := []api.Need{{Kind: api.Is, Name: "team", Vals: []string{"a", "b"}}}
	match := api.Match{Path: api.Path{Kind: api.Prefix, Val: "/"}, Head: []api.Pair{{Name: "h", Val: "1"}}, Query: []api.Pair{{Name: "q", Val: "1"}}}
	return []api.Object{
		class("ours", true),
		{Ref: ref(api.SpaceK, "", "web"), Labels: []api.Pair{{Name: "team", Val: "a"}}},
		{Ref: ref(api.ServiceK, "app", "api"), Ports: []int{80, 443}},
		{Ref: ref(api.ServiceK, "web", "api"), Ports: []int{80}},
		{Ref: ref(api.SecretK, "web", "cert"), Good: true},
		{Ref: ref(api.GatewayK, "web", "gw"), Class: "ours", Listeners: []api.Listener{{Name: "a", Port: 80, From: api.SomeSpaces, Needs: has}, {Name: "b", Port: 81}}},
		{
			Ref:     ref(api.RouteK, "web", "shop"),
			Parents: []api.Parent{{Name: "gw"}},
			Hosts:   []string{"a.test", "*.test"},
			Rules: []api.Rule{{
				Matches:  []api.Match{match},
				Filters:  []api.Filter{{Kind: api.SetF, Name: "via", Val: "toll"}},
				Backends: []api.Backend{{Ref: ref(api.ServiceK, "app", "api"), Port: 80, Weight: 1}},
			}},
		},
		{Ref: ref(api.GrantK, "app", "let"), From: []api.Side{{Kind: api.RouteK, Space: "web"}}, To: []api.Side{{Kind: api.ServiceK}}},
	}
}

// another is an object of the same ref, that may be, and is another one.
func another(o api.Object) api.Object {
	switch o.Ref.Kind {
	case api.ClassK, api.SecretK:
		o.Good = !o.Good
	case api.SpaceK:
		o.Labels = append([]api.Pair{{Name: "more", Val: "1"}}, o.Labels...)
	case api.ServiceK:
		o.Ports = append([]int{1}, o.Ports...)
	case api.GatewayK:
		o.Class += "-2"
	case api.RouteK:
		o.Hosts = nil
	case api.GrantK:
		o.To = []api.Side{{Kind: api.ServiceK, Name: "api"}}
	}
	return o
}

// conds is n conds, no two of them the same.
func conds(n int) []api.Cond {
	var out []api.Cond
	for i := range n {
		out = append(out, api.Cond{Part: fmt.Sprint("p", i), Type: "Accepted", Reason: "Accepted", True: true, N: i, Gen: 1})
	}
	return out
}

// log is an event of each version from a floor on up to a version, of refs of which not all are there.
func log(floor, version int) []api.Event {
	var out []api.Event
	for v := floor + 1; v <= version; v++ {
		out = append(out, api.Event{Version: v, Ref: ref(api.RouteK, "web", fmt.Sprint("r", v%3))})
	}
	return out
}

// ordinary is a store of things of all kinds, at 30: the one at i was made by 11+2i, and has 0 or 1, 2, 3.. versions and conds more.
func ordinary() api.Store {
	s := api.Store{Version: 30, Floor: 20, Log: log(20, 30)}
	for i, o := range objects() {
		s.L = append(s.L, api.Stored{O: o, Born: 11 + 2*i, Version: 11 + 2*i + i%4, Gen: 1 + i%4/2, Conds: conds(i % 4)})
	}
	return s
}

// full is a store of MaxObjects classes, at a version.
func full(version int) api.Store {
	s := api.Store{Version: version, Floor: version}
	for i := range 40 {
		s.L = append(s.L, api.Stored{O: class(fmt.Sprint("c", 10+i), i%2 == 0), Born: 1 + i, Version: 41 + i, Gen: 1})
	}
	return s
}

// at is the ordinary store, with a log of so many events, at a version.
func at(version, events int) api.Store {
	s := ordinary()
	s.Version, s.Floor, s.Log = version, version-events, log(version-events, version)
	return s
}

// stores is stores that may be: what the chapter names, at each edge.
func stores() []api.Store {
	most := ordinary()
	for i := range most.L {
		// Each change since it was made was one of the object.
		most.L[i].Gen = most.L[i].Version - most.L[i].Born + 1
		most.L[i].Conds = conds(40)
	}
	last := full(api.MaxVersion)
	last.L[7].Version, last.L[8].Born, last.L[8].Version = api.MaxVersion, api.MaxVersion, api.MaxVersion
	last.L[9] = api.Stored{O: class("c19", true), Born: 1, Version: api.MaxVersion, Gen: api.MaxVersion}
	oneSpare := full(100)
	oneSpare.L = slices.Delete(oneSpare.L, 3, 4)
	return []api.Store{
		{}, {L: []api.Stored{}, Log: []api.Event{}}, {Version: 5, Floor: 5}, {Version: 5, Log: log(0, 5)}, {Version: 16, Log: log(0, 16)}, {Version: api.MaxVersion, Floor: api.MaxVersion},
		ordinary(), most, full(100), oneSpare, last,
		at(30, 0), at(30, 1), at(30, 15), at(30, 16), at(api.MaxVersion-1, 16), at(api.MaxVersion, 0), at(api.MaxVersion, 16),
	}
}

// numbers that are too small, or too great, for whatever they stand for.
var noNumbers = []int{-1, -2, -16, -1 << 32, math.MinInt, math.MinInt + 1, math.MaxInt, math.MaxInt - 1}

// wrongs is stores that may not be, with the one thing that is wrong of each.
func wrongs() map[string]api.Store {
	out := map[string]api.Store{}
	add := func(name string, change func(s *api.Store)) {
		s := ordinary()
		change(&s)
		out[name] = s
	}
	for _, n := range append(noNumbers, api.MaxVersion+1) {
		add(fmt.Sprint("version ", n), func(s *api.Store) { s.Version, s.Floor, s.Log = n, n, nil })
		add(fmt.Sprint("version alone ", n), func(s *api.Store) { s.Version = n })
		add(fmt.Sprint("floor alone ", n), func(s *api.Store) { s.Floor = n })
		add(fmt.Sprint("born ", n), func(s *api.Store) { s.L[1].Born = n })
		add(fmt.Sprint("version of a thing ", n), func(s *api.Store) { s.L[1].Version = n })
		add(fmt.Sprint("gen ", n), func(s *api.Store) { s.L[1].Gen = n })
	}
	out["a version that is more than may be"] = at(api.MaxVersion+1, 16)
	out["a floor below 0"] = api.Store{Version: 1, Floor: -1, Log: log(-1, 1)}
	out["a floor below 0, no events"] = api.Store{Floor: -1}
	// Here a difference and a sum that wrap round would fit.
	out["the least version above the greatest floor"] = api.Store{Version: math.MinInt, Floor: math.MaxInt, Log: []api.Event{{Version: math.MinInt, Ref: ref(api.RouteK, "web", "r")}}}
	add("a floor above the version", func(s *api.Store) { s.Floor, s.Log = 31, nil })
	add("a floor above the version, with its event", func(s *api.Store) { s.Floor, s.Log = 31, log(31, 32)[:1] })
	wrongLogs(add)
	wrongThings(add)
	return out
}

func wrongLogs(add func(string, func(*api.Store))) {
	add("no log", func(s *api.Store) { s.Log = nil })
	add("the first event is left out", func(s *api.Store) { s.Log = s.Log[1:] })
	add("the last event is left out", func(s *api.Store) { s.Log = s.Log[:9] })
	add("one in between is left out", func(s *api.Store) { s.Log = slices.Delete(s.Log, 4, 5) })
	add("an event too many", func(s *api.Store) { s.Log = log(20, 31) })
	add("an event too many, at the floor", func(s *api.Store) { s.Log = log(19, 30) })
	add("an event twice", func(s *api.Store) { s.Log = slices.Insert(s.Log, 4, s.Log[4]) })
	add("two events of one version", func(s *api.Store) { s.Log[4].Version = s.Log[3].Version })
	add("no event where the floor is lower", func(s *api.Store) { s.Floor = 19 })
	add("all events one lower", func(s *api.Store) { s.Log = log(19, 29) })
	add("all events one higher", func(s *api.Store) { s.Log = log(21, 31) })
	for _, i := range []int{0, 4, 9} {
		add(fmt.Sprint("another version at ", i), func(s *api.Store) { s.Log[i].Version = 40 })
		add(fmt.Sprint("no version at ", i), func(s *api.Store) { s.Log[i].Version = 0 })
		add(fmt.Sprint("no ref at ", i), func(s *api.Store) { s.Log[i].Ref = api.Ref{} })
		add(fmt.Sprint("a ref that may not be at ", i), func(s *api.Store) { s.Log[i].Ref = ref(api.ClassK, "web", "a") })
	}
	add("events out of order", func(s *api.Store) { s.Log[4], s.Log[5] = s.Log[5], s.Log[4] })
	add("events turned round", func(s *api.Store) { slices.Reverse(s.Log) })
	add("a log of one more than may be", func(s *api.Store) { s.Floor, s.Log = 13, log(13, 30) })
	add("a log of all", func(s *api.Store) { s.Floor, s.Log = 0, log(0, 30) })
}

func wrongThings(add func(string, func(*api.Store))) {
	for i := range objects() {
		add(fmt.Sprint("born 0 at ", i), func(s *api.Store) { s.L[i].Born = 0 })
		add(fmt.Sprint("born above its version at ", i), func(s *api.Store) { s.L[i].Born, s.L[i].Gen = s.L[i].Version+1, 1 })
		add(fmt.Sprint("a version above the store's at ", i), func(s *api.Store) { s.L[i].Version = 31 })
		add(fmt.Sprint("version 0 at ", i), func(s *api.Store) { s.L[i].Version = 0 })
		add(fmt.Sprint("gen 0 at ", i), func(s *api.Store) { s.L[i].Gen = 0 })
		add(fmt.Sprint("a gen too great at ", i), func(s *api.Store) { s.L[i].Gen = s.L[i].Version - s.L[i].Born + 2 })
		add(fmt.Sprint("a cond too many at ", i), func(s *api.Store) { s.L[i].Conds = conds(41) })
		add(fmt.Sprint("an object that may not be at ", i), func(s *api.Store) { s.L[i].O.Good, s.L[i].O.Ports = true, []int{1} })
		add(fmt.Sprint("a ref that may not be at ", i), func(s *api.Store) { s.L[i].O.Ref.Name += "." })
		add(fmt.Sprint("a thing twice at ", i), func(s *api.Store) { s.L = slices.Insert(s.L, i, s.L[i]) })
		add(fmt.Sprint("one ref twice at ", i), func(s *api.Store) {
			x := s.L[i]
			x.O, x.Born = another(x.O), x.Version
			x.Gen = 1
			s.L = slices.Insert(s.L, i, x)
		})
		if i > 0 {
			add(fmt.Sprint("refs that fall at ", i), func(s *api.Store) { s.L[i], s.L[i-1] = s.L[i-1], s.L[i] })
		}
	}
	add("a thing that is none", func(s *api.Store) { s.L[0] = api.Stored{} })
	add("the first and the last one turned round", func(s *api.Store) { s.L[0], s.L[7] = s.L[7], s.L[0] })
	add("one more than may be", func(s *api.Store) {
		*s = full(100)
		s.L = append(s.L, api.Stored{O: class("z", true), Born: 1, Version: 1, Gen: 1})
	})
	add("many", func(s *api.Store) { s.L = make([]api.Stored, 1<<12) })
	add("nothing but a thing", func(s *api.Store) { *s = api.Store{L: s.L[:1]} })
}

// everyStore is all stores that may be, and all that may not.
func everyStore() []api.Store {
	out, others := stores(), wrongs()
	for _, name := range names(others) {
		out = append(out, others[name])
	}
	return out
}

// names is the keys of a map, in order.
func names[T any](m map[string]T) []string {
	var out []string
	for name := range m {
		out = append(out, name)
	}
	slices.Sort(out)
	return out
}

// plain is a value with lists of its own.
func plain[T any](x T) T {
	return deep(reflect.ValueOf(x), 0).Interface().(T)
}

// roomy is a value with lists of its own, each with room behind its end, that holds what is in the list.
func roomy[T any](x T) T {
	return deep(reflect.ValueOf(x), 1).Interface().(T)
}

func deep(v reflect.Value, room int) reflect.Value {
	out := reflect.New(v.Type()).Elem()
	out.Set(v)
	switch v.Kind() {
	case reflect.Struct:
		for i := range v.NumField() {
			out.Field(i).Set(deep(v.Field(i), room))
		}
	case reflect.Slice:
		n := v.Len()
		out.Set(reflect.MakeSlice(v.Type(), n*(1+room), n*(1+room)))
		for i := range n * (1 + room) {
			out.Index(i).Set(deep(v.Index(i%n), room))
		}
		out.SetLen(n)
	}
	return out
}

// alike: are two values the same, if a list without elements is none?
func alike[T any](a, b T) bool { return equal(reflect.ValueOf(a), reflect.ValueOf(b)) }

func equal(a, b reflect.Value) bool {
	switch {
	case a.Comparable():
		return a.Equal(b)
	case a.Kind() == reflect.Struct:
		for i := range a.NumField() {
			if !equal(a.Field(i), b.Field(i)) {
				return false
			}
		}
		return true
	case a.Len() != b.Len():
		return false
	}
	for i := range a.Len() {
		if !equal(a.Index(i), b.Index(i)) {
			return false
		}
	}
	return true
}

// whole is a value of which each list goes on to the end of its room.
func whole[T any](x T) T {
	v := reflect.ValueOf(&x).Elem()
	spread(v)
	return x
}

func spread(v reflect.Value) {
	switch v.Kind() {
	case reflect.Struct:
		for i := range v.NumField() {
			spread(v.Field(i))
		}
	case reflect.Slice:
		v.Set(reflect.AppendSlice(reflect.MakeSlice(v.Type(), 0, v.Cap()), v.Slice(0, v.Cap())))
		for i := range v.Len() {
			spread(v.Index(i))
		}
	}
}

// brief is a value's text, cut where it would fill the screen.
func brief(v any) string { return fmt.Sprintf("%.600s", fmt.Sprintf("%+v", v)) }

func TestEdges(t *testing.T) {
	if api.MaxObjects != 40 || api.MaxLog != 16 || api.MaxConds != 40 || api.MaxVersion != 1099511627775 {
		t.Error("the limits are others than they should")
	}
	for _, o := range objects() {
		if !object.May(o) || !object.May(another(o)) || object.Same(o, another(o)) || o.Ref != another(o).Ref {
			t.Errorf("the object %s, or another one of its ref, is no good for tests", brief(o))
		}
	}
}

func TestExamples(t *testing.T) {
	s, err := store.Create(api.Store{}, class("a", true))
	want := api.Store{Version: 1, L: []api.Stored{{O: class("a", true), Version: 1, Gen: 1, Born: 1}}, Log: []api.Event{{Version: 1, Ref: ref(1, "", "a")}}}
	if err != api.OK || !alike(s, want) {
		t.Errorf("example 1: %s, %d", brief(s), err)
	}
	if got, err := store.Update(s, class("a", false), 2); err != api.ErrStale || !alike(got, s) {
		t.Errorf("example 2, another version: %s, %d", brief(got), err)
	}
	for _, version := range []int{0, 1} {
		if got, err := store.Update(s, class("a", true), version); err != api.OK || !alike(got, s) {
			t.Errorf("example 2, the same object: %s, %d", brief(got), err)
		}
	}
	for i := range 16 {
		if _, err := store.Since(s, 0); err != api.OK {
			t.Errorf("example 3: behind %d changes Since of 0 is %d", i+1, err)
		}
		s, _ = store.Update(s, class("a", i%2 != 0), 0)
	}
	if l, err := store.Since(s, 0); s.Version != 17 || err != api.ErrOld || len(l) > 0 {
		t.Errorf("example 3: behind %d changes Since of 0 is %v, %d", s.Version, l, err)
	}
}

// P10.1: Check.

func TestCheck(t *testing.T) {
	for i, s := range stores() {
		if err := store.Check(s); err != api.OK {
			t.Errorf("Check of store %d is %d: %s", i, err, brief(s))
		}
	}
	for name, s := range wrongs() {
		if err := store.Check(s); err != api.ErrArg {
			t.Errorf("Check of a store with %s is %d", name, err)
		}
	}
}

func TestCheckCounts(t *testing.T) {
	for n := range 60 {
		want := func(may bool) api.Errno {
			if may {
				return api.OK
			}
			return api.ErrArg
		}
		s := api.Store{Version: 100, Floor: 100 - n, Log: log(100-n, 100)}
		if got := store.Check(s); got != want(n <= 16) {
			t.Errorf("Check with %d events is %d", n, got)
		}
		s = api.Store{Version: 100, Floor: 100}
		for i := range n {
			s.L = append(s.L, api.Stored{O: class(fmt.Sprint("c", 10+i), true), Born: 1, Version: 1, Gen: 1})
		}
		if got := store.Check(s); got != want(n <= 40) {
			t.Errorf("Check with %d things is %d", n, got)
		}
		s.L = []api.Stored{{O: class("c", true), Born: 1, Version: 1, Gen: 1, Conds: make([]api.Cond, n)}}
		if got := store.Check(s); got != want(n <= 40) {
			t.Errorf("Check with %d conds is %d", n, got)
		}
	}
	for _, s := range []api.Store{{Log: make([]api.Event, 1<<20)}, {L: make([]api.Stored, 1<<16)}, {Version: 1 << 20, Log: log(0, 1<<20)}} {
		if store.Check(s) != api.ErrArg {
			t.Error("Check with a long list is not ErrArg")
		}
	}
}

// TestCheckVersions has a thing of each version, made by each, of each generation, in stores of each version.
func TestCheckVersions(t *testing.T) {
	for version := range 5 {
		for own := -1; own <= 6; own++ {
			for born := -1; born <= 6; born++ {
				for gen := -1; gen <= 7; gen++ {
					s := api.Store{Version: version, Floor: version, L: []api.Stored{{O: class("a", true), Version: own, Born: born, Gen: gen}}}
					may := 1 <= born && born <= own && own <= version && 1 <= gen && gen <= own-born+1
					if (store.Check(s) == api.OK) != may {
						t.Errorf("Check of %s is %d", brief(s), store.Check(s))
					}
				}
			}
		}
	}
}

// TestCheckFloors has each floor, and logs of each first version and size, in stores of each version.
func TestCheckFloors(t *testing.T) {
	for version := -2; version <= 20; version++ {
		for floor := -3; floor <= 21; floor++ {
			for first := -3; first <= 21; first++ {
				for n := range 20 {
					s := api.Store{Version: version, Floor: floor, Log: log(first-1, first-1+n)}
					may := 0 <= floor && floor <= version && n == version-floor && n <= 16 && (n == 0 || first == floor+1)
					if (store.Check(s) == api.OK) != may {
						t.Fatalf("Check of %s is %d", brief(s), store.Check(s))
					}
				}
			}
		}
	}
}

// What is told of things, and what stands in the log, has no bounds but those of the chapter.
func TestCheckWhatIsNotAsked(t *testing.T) {
	for name, change := range map[string]func(s *api.Store){
		"events of a ref that is not there":      func(s *api.Store) { s.Log[0].Ref = ref(api.GrantK, "none", "none") },
		"events of one ref":                      func(s *api.Store) { s.Log[0].Ref = s.Log[1].Ref },
		"two things of one version":              func(s *api.Store) { s.L[0].Version, s.L[1].Version = 20, 20 },
		"two things made by one version":         func(s *api.Store) { s.L[0].Born, s.L[1].Born = 5, 5 },
		"a cond twice":                           func(s *api.Store) { s.L[0].Conds = make([]api.Cond, 2) },
		"a cond of a gen that there is not":      func(s *api.Store) { s.L[0].Conds = []api.Cond{{Gen: -7, N: math.MinInt, Type: "\xff"}} },
		"a thing made before the floor":          func(s *api.Store) { s.L[7].Born, s.L[7].Version, s.L[7].Gen = 1, 1, 1 },
		"a thing made by the store's version":    func(s *api.Store) { s.L[7].Born, s.L[7].Version, s.L[7].Gen = 30, 30, 1 },
		"a gateway of a class that is not there": func(s *api.Store) { s.L = s.L[1:] },
	} {
		s := ordinary()
		if change(&s); store.Check(s) != api.OK {
			t.Errorf("Check with %s is not OK", name)
		}
	}
}

// P10.1: Objects.

func TestObjects(t *testing.T) {
	all := everyStore()
	for i, s := range all {
		var want []api.Object
		for _, x := range s.L {
			want = append(want, x.O)
		}
		if got := store.Objects(s); !alike(got, want) {
			t.Errorf("Objects of store %d: %s", i, brief(got))
		}
	}
	if got := store.Objects(ordinary()); !alike(got, objects()) {
		t.Errorf("Objects of the ordinary store: %s", brief(got))
	}
}

// P10.1: Get.

func TestGet(t *testing.T) {
	for i, s := range stores() {
		for _, x := range s.L {
			if got, err := store.Get(s, x.O.Ref); err != api.OK || !alike(got, x) {
				t.Errorf("store %d: Get of %v: %s, %d", i, x.O.Ref, brief(got), err)
			}
		}
		for _, r := range noRefs() {
			if got, err := store.Get(s, r); err != api.ErrNone || !reflect.DeepEqual(got, api.Stored{}) {
				t.Errorf("store %d: Get of %v: %s, %d", i, r, brief(got), err)
			}
		}
	}
	for name, s := range wrongs() {
		for _, r := range append(noRefs(), ref(1, "", "ours"), ref(6, "web", "shop"), ref(1, "", "c10")) {
			if got, err := store.Get(s, r); err != api.ErrArg || !reflect.DeepEqual(got, api.Stored{}) {
				t.Errorf("%s: Get of %v: %s, %d", name, r, brief(got), err)
			}
		}
	}
}

// noRefs is refs of which there are none in any of the stores: ahead of, between and behind those that are there, near to them, and some that may not be.
func noRefs() []api.Ref {
	return []api.Ref{
		{}, ref(1, "", ""), ref(1, "", "a"), ref(1, "", "z"), ref(1, "", "our"), ref(1, "", "ourss"), ref(1, "", "OURS"), ref(1, "web", "ours"), ref(1, "", "c1"), ref(1, "", "c9"), ref(1, "", "c100"),
		ref(2, "", "ours"), ref(2, "", "app"), ref(3, "", "api"), ref(3, "apb", "api"), ref(3, "app", "apj"), ref(3, "app", "shop"), ref(4, "web", "api"), ref(5, "app", "gw"),
		ref(6, "web", "shop "), ref(6, "web", "shop.a"), ref(6, "app", "shop"), ref(6, "web", "\xff"), ref(7, "app", "lets"), ref(7, "web", "let"),
		ref(8, "", "a"), ref(0, "web", "a"), ref(-1, "", "ours"), ref(math.MaxInt, "", "ours"), ref(math.MinInt, "", "ours"), ref(1<<32+1, "", "ours"), ref(6, "web", strings.Repeat("a", 1<<10)),
	}
}

// P10.1: Same.

func checkSame(t *testing.T, a, b api.Store, want bool, where string) {
	t.Helper()
	if store.Same(a, b) != want || store.Same(b, a) != want {
		t.Errorf("%s: Same is %t, the other way round %t", where, store.Same(a, b), store.Same(b, a))
	}
}

func TestSamePairs(t *testing.T) {
	all := everyStore()
	for i, a := range all {
		checkSame(t, a, a, true, fmt.Sprint("store ", i))
		checkSame(t, a, plain(a), true, fmt.Sprint("store ", i, ", with lists of its own"))
		for k, b := range all[:i] {
			checkSame(t, a, b, alike(a, b), fmt.Sprint("stores ", i, " and ", k))
		}
	}
}

// eachChange makes each change to one place of a value that makes it another one, visits it, and takes it back.
func eachChange(v reflect.Value, where string, visit func(where string)) {
	try := func(how string, other any) {
		kept := reflect.New(v.Type()).Elem()
		kept.Set(v)
		v.Set(reflect.ValueOf(other).Convert(v.Type()))
		visit(where + ": " + how)
		v.Set(kept)
	}
	switch v.Kind() {
	case reflect.Bool:
		try("turned", !v.Bool())
	case reflect.Int:
		n := int(v.Int())
		for _, other := range []int{n + 1, n - 1, -n - 1, n + 1<<32, n + 256, math.MaxInt, math.MinInt} {
			try(fmt.Sprint(other), other)
		}
	case reflect.String:
		for _, other := range []string{v.String() + "x", v.String() + ".", strings.ToUpper(v.String()) + "\xff"} {
			try(other, other)
		}
	case reflect.Struct:
		for i := range v.NumField() {
			eachChange(v.Field(i), where+"."+v.Type().Field(i).Name, visit)
		}
	case reflect.Slice:
		own := v.Slice3(0, v.Len(), v.Len())
		try("one more", reflect.Append(own, reflect.New(v.Type().Elem()).Elem()).Interface())
		for i := range v.Len() {
			less := reflect.AppendSlice(v.Slice3(0, i, i), v.Slice(i+1, v.Len()))
			try(fmt.Sprint("without ", i), less.Interface())
			twice := reflect.AppendSlice(v.Slice3(0, i+1, i+1), v.Slice(i, v.Len()))
			try(fmt.Sprint("twice ", i), twice.Interface())
			eachChange(v.Index(i), fmt.Sprint(where, " ", i), visit)
		}
	}
}

// TestEachChange holds Check and Same against the chapter's words at each change to one place of a store.
func TestEachChange(t *testing.T) {
	var may, not int
	for i, s := range []api.Store{ordinary(), full(100), at(api.MaxVersion, 16)} {
		other := plain(s)
		eachChange(reflect.ValueOf(&other).Elem(), fmt.Sprint(i), func(where string) {
			checkSame(t, s, other, false, where)
			if (store.Check(other) == api.OK) != mayByWords(other) {
				t.Errorf("%s: Check is %d", where, store.Check(other))
			}
			if mayByWords(other) {
				may++
			} else {
				not++
			}
		})
		if !alike(s, other) {
			t.Fatal("a change was not taken back")
		}
	}
	if may < 500 || not < 500 {
		t.Errorf("so many may be: %d, and not: %d", may, not)
	}
}

// P10.5: Since.

func TestSince(t *testing.T) {
	for i, s := range stores() {
		versions := append([]int{-1, 0, 1, s.Floor - 1, s.Version, s.Version + 1}, noNumbers...)
		for v := max(-1, s.Floor-2); v <= s.Version+1 && v <= s.Floor+20; v++ {
			versions = append(versions, v)
		}
		for _, v := range versions {
			var want []api.Event
			wantErr := api.OK
			switch {
			case v < 0 || v > s.Version:
				wantErr = api.ErrArg
			case v < s.Floor:
				wantErr = api.ErrOld
			default:
				for _, e := range s.Log {
					if e.Version > v {
						want = append(want, e)
					}
				}
			}
			if got, err := store.Since(s, v); err != wantErr || !slices.Equal(got, want) {
				t.Errorf("store %d: Since of %d: %v, %d", i, v, got, err)
			}
		}
	}
	for name, s := range wrongs() {
		for _, v := range []int{-1, 0, 1, 20, 25, 30, 31, s.Version, s.Floor} {
			if got, err := store.Since(s, v); err != api.ErrArg || len(got) > 0 {
				t.Errorf("%s: Since of %d: %v, %d", name, v, got, err)
			}
		}
	}
}

func TestSinceOfOrdinary(t *testing.T) {
	s := ordinary()
	for _, c := range []struct {
		version, events int
		err             api.Errno
	}{
		{-1, 0, api.ErrArg}, {0, 0, api.ErrOld}, {1, 0, api.ErrOld}, {19, 0, api.ErrOld}, {20, 10, api.OK}, {21, 9, api.OK}, {29, 1, api.OK}, {30, 0, api.OK}, {31, 0, api.ErrArg}, {math.MaxInt, 0, api.ErrArg}, {math.MinInt, 0, api.ErrArg},
	} {
		got, err := store.Since(s, c.version)
		if err != c.err || !slices.Equal(got, s.Log[10-c.events:]) {
			t.Errorf("Since of %d: %v, %d", c.version, got, err)
		}
	}
	for v := -1; v <= 1; v++ {
		if got, err := store.Since(api.Store{}, v); len(got) > 0 || (err == api.OK) != (v == 0) {
			t.Errorf("Since of %d of none: %v, %d", v, got, err)
		}
	}
}
