package label_test

import (
	"fmt"
	"math"
	"reflect"
	"slices"
	"strings"
	"testing"

	"toll/api"
	"toll/dns"
	"toll/label"
)

// Texts of the edges that the limits name.
var (
	label20 = strings.Repeat("a", api.MaxLabel)
	label21 = strings.Repeat("a", api.MaxLabel+1)
	name60  = strings.Repeat("abcde.", 9) + "abcdef"
	name61  = strings.Repeat("abcde.", 9) + "abcdefg"
	endless = strings.Repeat("a", 1<<20)
)

var kinds = []int{api.Is, api.IsNot, api.Has, api.Lacks}

// noKinds are numbers of no kind of needs.
var noKinds = []int{0, 5, 6, -1, -2, -4, 1 << 32, 1<<32 + 1, 1<<32 + 3, -1<<32 + 1, 256 + 1, 256 + 3, math.MaxInt, math.MinInt}

// names and noNames are texts that are names, and that are not.
var (
	names   = []string{"a", "z", "0", "9", "env", "a-b", "a.b", "app.kind", "1.2.3", "a--b", label20, label20 + "." + label20, name60}
	noNames = []string{"", ".", "a.", ".a", "a..b", "-", "-a", "a-", "a.-b", "a-.b", "A", "aB", "a b", " a", "a ", "a_b", "a/b", "*", "*.a", "a=b", "é", "\xff", "a\x00", "\n", label21, "a." + label21, name61, endless}
)

// values and noValues are texts that a label, or a need, may have, and that it may not.
var (
	values   = []string{"", "a", "z", "0", "9", "web", "a-b", "a--b", "1", label20}
	noValues = []string{"-", "-a", "a-", "A", "aB", "a.b", ".", "a.", ".a", " ", "a ", " a", "a b", "a_b", "a/b", "é", "\xff", "\x00", "\n", label21, name60, endless}
)

// list is labels' names and values, one behind the other, with room behind them.
func list(texts ...string) []api.Pair {
	out := make([]api.Pair, 0, len(texts))
	for i := 0; i+1 < len(texts); i += 2 {
		out = append(out, api.Pair{Name: texts[i], Val: texts[i+1]})
	}
	return out
}

// many is n labels that may be, but for their number, if it is too great.
func many(n int) []api.Pair {
	var out []api.Pair
	for i := range n {
		out = append(out, api.Pair{Name: fmt.Sprintf("n%06d", i), Val: fmt.Sprint("v", i)})
	}
	return out
}

func is(name string, vals ...string) api.Need {
	return api.Need{Kind: api.Is, Name: name, Vals: vals}
}

func isNot(name string, vals ...string) api.Need {
	return api.Need{Kind: api.IsNot, Name: name, Vals: vals}
}

func has(name string) api.Need { return api.Need{Kind: api.Has, Name: name} }

func lacks(name string) api.Need { return api.Need{Kind: api.Lacks, Name: name} }

// of is a need of a kind, with a value, if the kind asks with some.
func of(kind int, name, val string) api.Need {
	if kind == api.Is || kind == api.IsNot {
		return api.Need{Kind: kind, Name: name, Vals: []string{val}}
	}
	return api.Need{Kind: kind, Name: name}
}

func texts(n int) []string {
	var out []string
	for i := range n {
		out = append(out, fmt.Sprint("v", i))
	}
	return out
}

// sameNeed: are two needs the same, with no regard to whether values that are none are nil?
func sameNeed(a, b api.Need) bool {
	return a.Kind == b.Kind && a.Name == b.Name && slices.Equal(a.Vals, b.Vals)
}

func clone(n api.Need) api.Need {
	n.Vals = slices.Clone(n.Vals)
	return n
}

func TestEdges(t *testing.T) {
	if api.MaxLabels != 8 || len(label20) != 20 || len(label21) != 21 || len(name60) != 60 || len(name61) != 61 {
		t.Error("the limits, or the edges' texts, are others than they should")
	}
	if api.Is != 1 || api.IsNot != 2 || api.Has != 3 || api.Lacks != 4 {
		t.Error("the kinds' numbers are others than they should")
	}
}

func TestExamples(t *testing.T) {
	l := list("a", "1", "b", "")
	if !label.May(l) {
		t.Fatal("the labels may not be")
	}
	for i, n := range []api.Need{is("a", "1", "2"), isNot("b", "1"), lacks("c")} {
		if !label.Met(n, l) || !label.All([]api.Need{n}, l) {
			t.Errorf("example %d: Met is %t, All %t", i+1, label.Met(n, l), label.All([]api.Need{n}, l))
		}
	}
	if not, ok := label.Not(lacks("c")); !ok || !sameNeed(not, has("c")) {
		t.Errorf("example 3: Not is %+v, %t", not, ok)
	}
}

// P8.1: May.

func TestMayNames(t *testing.T) {
	for _, name := range names {
		for _, val := range []string{"", "web"} {
			if !label.May(list(name, val)) {
				t.Errorf("May of the name %q is false", name)
			}
		}
	}
	for _, name := range noNames {
		for _, l := range [][]api.Pair{list(name, ""), list(name, "web"), list(name, "", "zz", ""), list("0", "", name, "")} {
			if label.May(l) {
				t.Errorf("May of the name %.80q is true", name)
			}
		}
	}
}

func TestMayValues(t *testing.T) {
	for _, val := range values {
		if !label.May(list("a", val)) || !label.May(list("a", "", "b", val)) {
			t.Errorf("May of the value %q is false", val)
		}
	}
	for _, val := range noValues {
		for _, l := range [][]api.Pair{list("a", val), list("a", val, "b", ""), list("a", "", "b", val)} {
			if label.May(l) {
				t.Errorf("May of the value %.80q is true", val)
			}
		}
	}
}

func TestMayCounts(t *testing.T) {
	for n := range 30 {
		if got := label.May(many(n)); got != (n <= 8) {
			t.Errorf("May of %d labels is %t", n, got)
		}
	}
	if !label.May(nil) || !label.May([]api.Pair{}) {
		t.Error("May of no labels is false")
	}
	for _, l := range [][]api.Pair{make([]api.Pair, 1), make([]api.Pair, 8), make([]api.Pair, 9), make([]api.Pair, 1<<20), many(1 << 16)} {
		if label.May(l) {
			t.Errorf("May of %d labels is true", len(l))
		}
	}
}

func TestMayOrder(t *testing.T) {
	for _, c := range []struct {
		names []string
		want  bool
	}{
		{[]string{"a", "b"}, true},
		{[]string{"b", "a"}, false},
		{[]string{"a", "a"}, false},
		{[]string{"a", "b", "c"}, true},
		{[]string{"a", "c", "b"}, false},
		{[]string{"b", "a", "c"}, false},
		{[]string{"c", "a", "b"}, false},
		{[]string{"a", "b", "b"}, false},
		{[]string{"a", "a", "b"}, false},
		{[]string{"a", "b", "a"}, false},
		{[]string{"a", "aa"}, true}, // a beginning comes ahead of all that goes on
		{[]string{"aa", "a"}, false},
		{[]string{"aa", "b"}, true},
		{[]string{"b", "aa"}, false}, // by octets, not by sizes
		{[]string{"10", "9"}, true},  // nor by numbers
		{[]string{"9", "10"}, false},
		{[]string{"a-b", "a.b"}, true}, // - comes ahead of ., and that of digits, and those of letters
		{[]string{"a.b", "a-b"}, false},
		{[]string{"a.b", "a0b"}, true},
		{[]string{"a0b", "a.b"}, false}, // by octets, not label by label
		{[]string{"a", "a.b"}, true},
		{[]string{"0", "a"}, true},
		{[]string{"a", "0"}, false},
		{[]string{"a-b", "a.b", "a0b", "aab"}, true},
		{[]string{name60[:59], name60}, true},
		{[]string{name60, name60[:59]}, false},
		{[]string{name60, name60}, false},
	} {
		for _, vals := range [][2]string{{"", ""}, {"1", "1"}, {"1", "2"}, {"2", "1"}} {
			var l []api.Pair
			for i, name := range c.names {
				l = append(l, api.Pair{Name: name, Val: vals[i%2]})
			}
			if got := label.May(l); got != c.want {
				t.Errorf("May(%q) is %t", l, got)
			}
		}
	}
}

// TestMayAtEachPlace has eight labels, one of which may not be, or stands where another should, or twice.
func TestMayAtEachPlace(t *testing.T) {
	for i := range 8 {
		for _, name := range noNames {
			l := many(8)
			l[i].Name = name
			if label.May(l) {
				t.Errorf("May of the name %.80q at %d is true", name, i)
			}
		}
		for _, val := range noValues {
			l := many(8)
			l[i].Val = val
			if label.May(l) {
				t.Errorf("May of the value %.80q at %d is true", val, i)
			}
		}
		for _, val := range values {
			l := many(8)
			l[i].Val = val
			if !label.May(l) {
				t.Errorf("May of the value %q at %d is false", val, i)
			}
		}
		for k := range i {
			l := many(8)
			l[i], l[k] = l[k], l[i]
			if label.May(l) {
				t.Errorf("May of labels at %d and %d for each other is true", i, k)
			}
			l = many(8)
			l[i].Name = l[k].Name
			if label.May(l) {
				t.Errorf("May of one name at %d and %d is true", i, k)
			}
			l = many(8)
			l[i].Val = l[k].Val
			if !label.May(l) {
				t.Errorf("May of one value at %d and %d is false", i, k)
			}
		}
	}
}

// P8.1: Needs.

// goodNeeds is needs that may be, of each kind.
func goodNeeds() []api.Need {
	return []api.Need{
		is("a", ""), is("a", "1"), is("a", "1", "2"), is("a", "1", "1"), is("a", "2", "1"), is("a", "", ""), is(name60, label20), is("a", texts(8)...), is("a", make([]string, 8)...),
		isNot("a", ""), isNot("a", "1"), isNot("a", "1", "2"), isNot("a", "", "1"), isNot(name60, label20), isNot("a", texts(8)...), isNot("a", make([]string, 8)...),
		has("a"), has("a.b-c"), has(name60), {Kind: api.Has, Name: "a", Vals: []string{}},
		lacks("a"), lacks("a.b-c"), lacks(name60), {Kind: api.Lacks, Name: "a", Vals: []string{}},
	}
}

// badNeeds is needs that may not be, each for one part alone, but for the first ones.
func badNeeds() []api.Need {
	out := []api.Need{{}, {Kind: api.Is}, {Kind: api.IsNot}, {Kind: api.Has}, {Kind: api.Lacks}}
	for _, kind := range noKinds {
		out = append(out, api.Need{Kind: kind, Name: "a"}, api.Need{Kind: kind, Name: "a", Vals: []string{"1"}}, api.Need{Kind: kind, Name: "c"})
	}
	for _, kind := range kinds {
		for _, name := range noNames {
			out = append(out, of(kind, name, "1"))
		}
	}
	for _, kind := range []int{api.Is, api.IsNot} {
		for _, vals := range [][]string{nil, {}, texts(9), make([]string, 9), make([]string, 1<<16), slices.Repeat([]string{"1"}, 9)} {
			out = append(out, api.Need{Kind: kind, Name: "a", Vals: vals})
		}
		for _, val := range noValues {
			for _, vals := range [][]string{{val}, {val, "1"}, {"1", val}, append(texts(7), val)} {
				out = append(out, api.Need{Kind: kind, Name: "a", Vals: vals})
			}
		}
	}
	for _, kind := range []int{api.Has, api.Lacks} {
		for _, vals := range [][]string{{""}, {"1"}, {"1", "2"}, texts(8), texts(9), {"-"}, {"\xff"}} {
			out = append(out, api.Need{Kind: kind, Name: "a", Vals: vals})
		}
	}
	return out
}

func TestNeeds(t *testing.T) {
	for _, n := range goodNeeds() {
		if !label.Needs([]api.Need{n}) {
			t.Errorf("Needs(%q) is false", fmt.Sprint(n))
		}
	}
	for _, n := range badNeeds() {
		for _, l := range [][]api.Need{{n}, {n, has("a")}, {has("a"), n}} {
			if label.Needs(l) {
				t.Errorf("Needs(%.200q) is true", fmt.Sprint(l))
			}
		}
	}
}

func TestNeedsNames(t *testing.T) {
	for _, kind := range kinds {
		for _, name := range names {
			if n := of(kind, name, "1"); !label.Needs([]api.Need{n}) {
				t.Errorf("Needs(%+v) is false", n)
			}
		}
	}
}

func TestNeedsValues(t *testing.T) {
	for _, kind := range []int{api.Is, api.IsNot} {
		for n := range 30 {
			if got := label.Needs([]api.Need{{Kind: kind, Name: "a", Vals: texts(n)}}); got != (n >= 1 && n <= 8) {
				t.Errorf("Needs of kind %d, %d values, is %t", kind, n, got)
			}
		}
		for i := range 8 {
			for _, val := range values {
				vals := texts(8)
				vals[i] = val
				if !label.Needs([]api.Need{{Kind: kind, Name: "a", Vals: vals}}) {
					t.Errorf("Needs of kind %d, the value %q at %d, is false", kind, val, i)
				}
			}
			for _, val := range noValues {
				vals := texts(8)
				vals[i] = val
				if label.Needs([]api.Need{{Kind: kind, Name: "a", Vals: vals}}) {
					t.Errorf("Needs of kind %d, the value %.80q at %d, is true", kind, val, i)
				}
			}
		}
	}
	for _, kind := range []int{api.Has, api.Lacks} {
		for n := range 30 {
			if got := label.Needs([]api.Need{{Kind: kind, Name: "a", Vals: texts(n)}}); got != (n == 0) {
				t.Errorf("Needs of kind %d, %d values, is %t", kind, n, got)
			}
		}
	}
}

func TestNeedsCounts(t *testing.T) {
	if !label.Needs(nil) || !label.Needs([]api.Need{}) {
		t.Error("Needs of none is false")
	}
	for _, n := range goodNeeds() { // needs may be there twice, and in whatever order
		for count := range 20 {
			if got := label.Needs(slices.Repeat([]api.Need{n}, count)); got != (count <= 8) {
				t.Errorf("Needs of %d times %+v is %t", count, n, got)
			}
		}
	}
	for i := range 8 {
		for _, n := range badNeeds() {
			l := slices.Repeat([]api.Need{has("b")}, 8)
			l[i] = n
			if label.Needs(l) {
				t.Errorf("Needs of %.200q at %d is true", fmt.Sprint(n), i)
			}
		}
	}
	if !label.Needs([]api.Need{has("b"), lacks("a"), is("c", "1"), isNot("a", "1"), lacks("b")}) {
		t.Error("Needs of names that do not rise is false")
	}
	if label.Needs(make([]api.Need, 1<<20)) || label.Needs(slices.Repeat([]api.Need{has("a")}, 1<<20)) {
		t.Error("Needs of a million is true")
	}
}

// P8.1: Same.

func TestSame(t *testing.T) {
	full := func() []api.Need {
		return []api.Need{is("a", "1", "2"), isNot("b", "", "1"), has("c"), lacks("d")}
	}
	if !label.Same(full(), full()) {
		t.Error("Same of needs and themselves is false")
	}
	for i, change := range []func(l []api.Need) []api.Need{
		func(l []api.Need) []api.Need { return nil },
		func(l []api.Need) []api.Need { return l[:1] },
		func(l []api.Need) []api.Need { return l[:3] },
		func(l []api.Need) []api.Need { return l[1:] },
		func(l []api.Need) []api.Need { return append(l, api.Need{}) },
		func(l []api.Need) []api.Need { return append(l, l[3]) },
		func(l []api.Need) []api.Need { return append(l, l...) },
		func(l []api.Need) []api.Need { slices.Reverse(l); return l },
		func(l []api.Need) []api.Need { l[0], l[1] = l[1], l[0]; return l },
		func(l []api.Need) []api.Need { l[2], l[3] = l[3], l[2]; return l },
		func(l []api.Need) []api.Need { l[0].Kind = api.IsNot; return l },
		func(l []api.Need) []api.Need { l[3].Kind = api.Has; return l },
		func(l []api.Need) []api.Need { l[2].Kind = 0; return l },
		func(l []api.Need) []api.Need { l[2].Kind += 1 << 32; return l },
		func(l []api.Need) []api.Need { l[0].Name = "b"; return l },
		func(l []api.Need) []api.Need { l[3].Name = "D"; return l },
		func(l []api.Need) []api.Need { l[3].Name = ""; return l },
		func(l []api.Need) []api.Need { l[0].Vals = nil; return l },
		func(l []api.Need) []api.Need { l[0].Vals = l[0].Vals[:1]; return l },
		func(l []api.Need) []api.Need { l[0].Vals = l[0].Vals[1:]; return l },
		func(l []api.Need) []api.Need { slices.Reverse(l[0].Vals); return l }, // part by part, not as what they ask
		func(l []api.Need) []api.Need { l[0].Vals[0] = "2"; return l },
		func(l []api.Need) []api.Need { l[0].Vals[1] = ""; return l },
		func(l []api.Need) []api.Need { l[1].Vals[0] = "1"; return l },
		func(l []api.Need) []api.Need { l[1].Vals = append(l[1].Vals, ""); return l },
		func(l []api.Need) []api.Need { l[1].Vals = append(l[1].Vals, "1"); return l },
		func(l []api.Need) []api.Need { l[2].Vals = []string{""}; return l },
	} {
		l := change(full())
		if label.Same(l, full()) || label.Same(full(), l) {
			t.Errorf("change %d: Same(%q) is true", i, fmt.Sprint(l))
		}
		if !label.Same(l, change(full())) {
			t.Errorf("change %d: Same(%q) of it and itself is false", i, fmt.Sprint(l))
		}
	}
}

func TestSameNone(t *testing.T) {
	none, empty := []api.Need(nil), []api.Need{}
	for _, a := range [][]api.Need{none, empty} {
		for _, b := range [][]api.Need{none, empty} {
			if !label.Same(a, b) {
				t.Error("Same of none and none is false")
			}
		}
		for _, n := range append(goodNeeds(), badNeeds()...) {
			if label.Same(a, []api.Need{n}) || label.Same([]api.Need{n}, a) {
				t.Errorf("Same of none and %.200q is true", fmt.Sprint(n))
			}
		}
	}
	if !label.Same([]api.Need{{Kind: api.Has, Name: "a", Vals: []string{}}}, []api.Need{has("a")}) {
		t.Error("Same of values that are nil, and of none, is false")
	}
}

// TestSameWhatever: needs that may not be are the same as themselves, too, and as none else.
func TestSameWhatever(t *testing.T) {
	l := append(goodNeeds(), badNeeds()...)
	for _, a := range l {
		for _, b := range l {
			want := sameNeed(a, b)
			if label.Same([]api.Need{a}, []api.Need{b}) != want || label.Same([]api.Need{has("x"), a}, []api.Need{has("x"), b}) != want || label.Same([]api.Need{a, has("x")}, []api.Need{b, has("x")}) != want {
				t.Fatalf("Same(%.200q, %.200q) is not %t", fmt.Sprint(a), fmt.Sprint(b), want)
			}
		}
	}
	long := slices.Repeat([]api.Need{is("a", "1")}, 1000)
	other := slices.Clone(long)
	other[999] = is("a", "2")
	if !label.Same(long, slices.Clone(long)) || label.Same(long, other) || label.Same(long, long[:999]) {
		t.Error("Same of long lists")
	}
}

// P8.2: Met, and All.

func TestMet(t *testing.T) {
	l := list("a", "1", "b", "", "c.d", "web", name60, label20)
	slices.SortFunc(l, func(p, q api.Pair) int { return strings.Compare(p.Name, q.Name) })
	if !label.May(l) {
		t.Fatal("the labels may not be")
	}
	for _, c := range []struct {
		n    api.Need
		want bool
	}{
		{is("a", "1"), true},
		{is("a", "2"), false},
		{is("a", "1", "2"), true},
		{is("a", "2", "1"), true},
		{is("a", "2", "3"), false},
		{is("a", ""), false},
		{is("a", "", "1"), true},
		{is("a", "11"), false},
		{is("a", "0", "2", "3", "4", "5", "6", "7", "1"), true},
		{is("a", "0", "2", "3", "4", "5", "6", "7", "8"), false},
		{is("b", ""), true}, // an empty value is one, too
		{is("b", "1"), false},
		{is("b", "1", ""), true},
		{is("c.d", "web"), true},
		{is("c.d", "we"), false},
		{is("c", "web"), false}, // no label of that name, but of one that begins so
		{is("d", "web"), false},
		{is("c", ""), false}, // what is not there has no empty value
		{is("x", "1"), false},
		{is("x", "", "1"), false},
		{is(name60, label20), true},
		{is(name60, label20[1:]), false},
		{has("a"), true},
		{has("b"), true},
		{has("c.d"), true},
		{has("c"), false},
		{has("d"), false},
		{has("c.d.e"), false},
		{has("x"), false},
		{has(name60), true},
		{has(name60[:59]), false},
	} {
		not := clone(c.n)
		not.Kind++ // IsNot behind Is, Lacks behind Has
		for _, x := range []struct {
			n    api.Need
			want bool
		}{{c.n, c.want}, {not, !c.want}} {
			if label.Met(x.n, l) != x.want || label.All([]api.Need{x.n}, l) != x.want {
				t.Errorf("of %+v Met is %t, All %t", x.n, label.Met(x.n, l), label.All([]api.Need{x.n}, l))
			}
		}
	}
}

// TestMetNoLabels: where there are none, what asks for one is not met, and what asks for none is.
func TestMetNoLabels(t *testing.T) {
	for _, l := range [][]api.Pair{nil, {}} {
		for _, n := range goodNeeds() {
			want := n.Kind == api.IsNot || n.Kind == api.Lacks
			if label.Met(n, l) != want || label.All([]api.Need{n}, l) != want {
				t.Errorf("of no labels, %+v: Met is %t, All %t", n, label.Met(n, l), label.All([]api.Need{n}, l))
			}
		}
	}
}

// TestMetAtEachPlace has eight labels, and asks for each of them, with each number of values.
func TestMetAtEachPlace(t *testing.T) {
	l := many(8)
	for i, p := range l {
		for size := 1; size <= 8; size++ {
			for at := range size {
				vals := slices.Repeat([]string{"x"}, size)
				if label.Met(is(p.Name, vals...), l) || !label.Met(isNot(p.Name, vals...), l) {
					t.Errorf("label %d, %d other values", i, size)
				}
				vals[at] = p.Val
				if !label.Met(is(p.Name, vals...), l) || label.Met(isNot(p.Name, vals...), l) {
					t.Errorf("label %d, its value at %d of %d", i, at, size)
				}
				vals[at] = l[(i+1)%8].Val // that of another label
				if label.Met(is(p.Name, vals...), l) || !label.Met(isNot(p.Name, vals...), l) {
					t.Errorf("label %d, another's value at %d of %d", i, at, size)
				}
			}
		}
		if !label.Met(has(p.Name), l) || label.Met(lacks(p.Name), l) {
			t.Errorf("label %d is not there", i)
		}
		less := slices.Delete(many(8), i, i+1)
		if label.Met(has(p.Name), less) || !label.Met(lacks(p.Name), less) || label.Met(is(p.Name, p.Val), less) || !label.Met(isNot(p.Name, p.Val), less) {
			t.Errorf("label %d is there without it", i)
		}
	}
}

// badLabels is labels that may not be; a stands in most of them, with 1.
func badLabels() [][]api.Pair {
	return [][]api.Pair{
		{{}},
		list("a", "1", "a", "1"),
		list("a", "1", "a", "2"),
		list("b", "", "a", "1"),
		list("a", "1", "c", "", "b", ""),
		list("a", "1", "b", "-"),
		list("a", "1", "b", "x.y"),
		list("a", "1", "b", label21),
		list("", "", "a", "1"),
		list("A", "1", "a", "1"),
		list("a", "1", "b.", ""),
		list("a", "1", name61, ""),
		append(list("a", "1"), many(8)...),
		make([]api.Pair, 1000),
		list("a", endless),
	}
}

func TestMetWrong(t *testing.T) {
	for _, n := range badNeeds() {
		for _, l := range [][]api.Pair{nil, {}, list("a", "1"), list("b", "1"), list("a", ""), list("c", "1"), many(8), {{Name: n.Name, Val: "1"}}} {
			if label.Met(n, l) || label.All([]api.Need{n}, l) || label.All([]api.Need{isNot("x", "1"), n}, l) || label.All([]api.Need{n, lacks("x")}, l) {
				t.Errorf("of %.200q, that may not be, and %.80q: it is met", fmt.Sprint(n), l)
			}
		}
	}
	for _, l := range badLabels() {
		if label.May(l) {
			t.Errorf("May(%.200q) is true", l)
		}
		for _, n := range append(goodNeeds(), badNeeds()...) {
			if label.Met(n, l) || label.All([]api.Need{n}, l) {
				t.Fatalf("of %.200q and the labels %.200q, that may not be: it is met", fmt.Sprint(n), l)
			}
		}
		for _, n := range []api.Need{has("a"), is("a", "1"), lacks("x"), isNot("x", "1")} {
			if label.Met(n, l) || label.All([]api.Need{n}, l) {
				t.Errorf("of %+v and the labels %.200q, that may not be: it is met", n, l)
			}
		}
		if label.All(nil, l) || label.All([]api.Need{}, l) {
			t.Errorf("All of no needs and the labels %.200q, that may not be, is true", l)
		}
	}
}

func TestAll(t *testing.T) {
	l := list("a", "1", "b", "")
	for _, c := range []struct {
		needs []api.Need
		want  bool
	}{
		{nil, true},
		{[]api.Need{}, true},
		{[]api.Need{has("a")}, true},
		{[]api.Need{has("a"), has("b")}, true},
		{[]api.Need{has("a"), has("c")}, false},
		{[]api.Need{has("c"), has("a")}, false},
		{[]api.Need{has("c"), has("d")}, false},
		{[]api.Need{has("a"), has("a")}, true},
		{[]api.Need{has("a"), lacks("a")}, false},
		{[]api.Need{lacks("a"), has("a")}, false},
		{[]api.Need{is("a", "1"), isNot("a", "2"), has("b"), lacks("c")}, true},
		{[]api.Need{is("a", "1"), isNot("a", "1"), has("b"), lacks("c")}, false},
		{[]api.Need{is("a", "1", "2"), is("a", "1", "3")}, true},
		{[]api.Need{is("a", "1", "2"), is("a", "2", "3")}, false},
		{[]api.Need{is("b", ""), isNot("b", "1"), has("b"), isNot("c", "")}, true},
		{slices.Repeat([]api.Need{has("a")}, 8), true},
		{slices.Repeat([]api.Need{has("a")}, 9), false}, // too many
		{slices.Repeat([]api.Need{lacks("c")}, 1<<16), false},
		{append(slices.Repeat([]api.Need{has("a")}, 7), lacks("c")), true},
		{append(slices.Repeat([]api.Need{has("a")}, 7), lacks("a")), false},
		{append(slices.Repeat([]api.Need{has("a")}, 7), has("A")), false},
	} {
		if got := label.All(c.needs, l); got != c.want {
			t.Errorf("All(%.200q) is %t", fmt.Sprint(c.needs), got)
		}
	}
}

// TestAllAtEachPlace has up to eight needs, of which one alone is not met.
func TestAllAtEachPlace(t *testing.T) {
	l := list("a", "1", "b", "")
	for n := 1; n <= 8; n++ {
		for i := range n {
			for _, unmet := range []api.Need{is("a", "2"), isNot("a", "1"), has("c"), lacks("b"), {Kind: 5, Name: "a"}} {
				needs := slices.Repeat([]api.Need{has("a")}, n)
				if !label.All(needs, l) {
					t.Errorf("All of %d needs is false", n)
				}
				needs[i] = unmet
				if label.All(needs, l) {
					t.Errorf("All of %d needs, %+v at %d, is true", n, unmet, i)
				}
			}
		}
	}
}

// P8.3: Not.

func TestNot(t *testing.T) {
	others := map[int]int{api.Is: api.IsNot, api.IsNot: api.Is, api.Has: api.Lacks, api.Lacks: api.Has}
	for _, n := range goodNeeds() {
		want := clone(n)
		want.Kind = others[n.Kind]
		not, ok := label.Not(n)
		if !ok || !sameNeed(not, want) || !label.Needs([]api.Need{not}) {
			t.Errorf("Not(%+v): %+v, %t", n, not, ok)
		}
		if again, ok := label.Not(not); !ok || !sameNeed(again, n) {
			t.Errorf("Not of Not(%+v): %+v, %t", n, again, ok)
		}
	}
	for _, n := range badNeeds() {
		if not, ok := label.Not(n); ok || !reflect.DeepEqual(not, api.Need{}) {
			t.Errorf("Not(%.200q): %.200q, %t", fmt.Sprint(n), fmt.Sprint(not), ok)
		}
	}
}

// The chapter's words, said once more, step by step.

func nameByWords(s string) bool { return len(dns.Labels(s)) > 0 }

func valueByWords(s string) bool {
	return len(s) == 0 || len(s) <= 20 && len(dns.Labels(s)) == 1
}

func mayByWords(l []api.Pair) bool {
	for i, p := range l {
		if i >= 8 || !nameByWords(p.Name) || !valueByWords(p.Val) {
			return false
		}
		for _, q := range l[:i] {
			if strings.Compare(q.Name, p.Name) != -1 {
				return false
			}
		}
	}
	return true
}

func needByWords(n api.Need) bool {
	bad := slices.ContainsFunc(n.Vals, func(s string) bool { return !valueByWords(s) })
	return nameByWords(n.Name) && (n.Kind == 1 || n.Kind == 2) && 1 <= len(n.Vals) && len(n.Vals) <= 8 && !bad ||
		nameByWords(n.Name) && (n.Kind == 3 || n.Kind == 4) && len(n.Vals) == 0
}

func metByWords(n api.Need, l []api.Pair) bool {
	if !needByWords(n) || !mayByWords(l) {
		return false
	}
	var there, one bool
	for _, p := range l {
		for _, val := range n.Vals {
			one = one || p == api.Pair{Name: n.Name, Val: val}
		}
		there = there || p.Name == n.Name
	}
	return []bool{one, !one, there, !there}[n.Kind-1]
}

func allByWords(needs []api.Need, l []api.Pair) bool {
	for _, n := range needs {
		if !needByWords(n) || !metByWords(n, l) {
			return false
		}
	}
	return len(needs) <= 8 && mayByWords(l)
}

// shortLists is all lists of at most n of these.
func shortLists[T any](of []T, n int) [][]T {
	out := [][]T{nil}
	last := out
	for range n {
		var next [][]T
		for _, l := range last {
			for _, x := range of {
				next = append(next, append(slices.Clone(l), x))
			}
		}
		out = append(out, next...)
		last = next
	}
	return out
}

// fewNeeds is needs of each kind and of none, with all lists of at most two out of a few values, some of which may not be.
func fewNeeds() []api.Need {
	var out []api.Need
	for _, kind := range []int{0, 1, 2, 3, 4, 5, -1} {
		for _, name := range []string{"a", "b", "a.b", "", "A"} {
			for _, vals := range shortLists([]string{"", "1", "2", "-"}, 2) {
				out = append(out, api.Need{Kind: kind, Name: name, Vals: vals})
			}
		}
	}
	return out
}

// fewLabels is all lists of at most three labels out of a few, most of which may not be.
func fewLabels() [][]api.Pair {
	return shortLists(list("a", "", "a", "1", "a", "2", "a.b", "1", "b", "", "b", "1", "A", "1", "c", "-"), 3)
}

func TestShortLists(t *testing.T) {
	needs := fewNeeds()
	for _, n := range needs {
		if label.Needs([]api.Need{n}) != needByWords(n) {
			t.Fatalf("Needs(%q) is %t", fmt.Sprint(n), !needByWords(n))
		}
	}
	may, met := 0, 0
	for _, l := range fewLabels() {
		if label.May(l) != mayByWords(l) {
			t.Fatalf("May(%q) is %t", l, label.May(l))
		}
		if label.May(l) {
			may++
		}
		for _, n := range needs {
			got := label.Met(n, l)
			if got != metByWords(n, l) || label.All([]api.Need{n}, l) != got {
				t.Fatalf("Met(%q, %q) is %t, All %t", fmt.Sprint(n), l, got, label.All([]api.Need{n}, l))
			}
			if got {
				met++
			}
		}
	}
	if may == 0 || met == 0 {
		t.Errorf("so many of the labels may be: %d; so many needs are met: %d", may, met)
	}
}

// fewerNeeds is needs of each kind, and one that may not be.
func fewerNeeds() []api.Need {
	return []api.Need{is("a", ""), is("a", "1"), is("b", "1", ""), isNot("a", "1"), isNot("b", ""), has("a"), has("a.b"), lacks("a"), lacks("b"), {Kind: 3, Name: "a", Vals: []string{"1"}}}
}

func TestAllShortLists(t *testing.T) {
	lists := shortLists(fewerNeeds(), 3)
	for _, l := range shortLists(list("a", "", "a", "1", "a.b", "1", "b", "", "A", "1"), 3) {
		for _, needs := range lists {
			if label.All(needs, l) != allByWords(needs, l) {
				t.Fatalf("All(%q, %q) is %t", fmt.Sprint(needs), l, label.All(needs, l))
			}
		}
	}
	for _, needs := range lists {
		if want := !slices.ContainsFunc(needs, func(n api.Need) bool { return !needByWords(n) }); label.Needs(needs) != want {
			t.Fatalf("Needs(%q) is %t", fmt.Sprint(needs), !want)
		}
	}
}

func TestSameShortLists(t *testing.T) {
	lists := shortLists(append(fewerNeeds()[:4], has("a"), api.Need{}), 3)
	for i, a := range lists {
		for k, b := range lists {
			if got := label.Same(a, b); got != (i == k) {
				t.Fatalf("Same(%q, %q) is %t", fmt.Sprint(a), fmt.Sprint(b), got)
			}
		}
	}
}

// P8.4: what follows.

// checkOneOfBoth: of a need and its Not just one is met by labels that may be.
func checkOneOfBoth(t *testing.T, n api.Need, l []api.Pair) {
	t.Helper()
	not, ok := label.Not(n)
	if ok != label.Needs([]api.Need{n}) || ok != label.Needs([]api.Need{not}) {
		t.Fatalf("Not(%q): %q, %t", fmt.Sprint(n), fmt.Sprint(not), ok)
	}
	want := 0
	if ok && label.May(l) {
		want = 1
	}
	got := 0
	for _, x := range []api.Need{n, not} {
		if label.Met(x, l) {
			got++
		}
	}
	if got != want || label.All([]api.Need{n, not}, l) {
		t.Fatalf("of %q and %q, and the labels %q: %d are met", fmt.Sprint(n), fmt.Sprint(not), l, got)
	}
}

func TestOneOfBoth(t *testing.T) {
	needs := append(fewNeeds(), goodNeeds()...)
	for _, l := range append(append(fewLabels(), badLabels()[:13]...), many(8), list(name60, label20)) {
		for _, n := range needs {
			checkOneOfBoth(t, n, l)
		}
	}
}

// checkMore: what is met with more needs is met with fewer, and no needs are met by all labels that may be.
func checkMore(t *testing.T, needs []api.Need, more api.Need, l []api.Pair) {
	t.Helper()
	longer := append(slices.Clone(needs), more)
	if label.All(longer, l) && !label.All(needs, l) {
		t.Fatalf("%q are met by %q, but not without the last one", fmt.Sprint(longer), l)
	}
	if want := label.All(needs, l) && label.Met(more, l); len(longer) <= 8 && label.All(longer, l) != want {
		t.Fatalf("All(%q, %q) is %t", fmt.Sprint(longer), l, !want)
	}
	if label.All(nil, l) != label.May(l) || label.All([]api.Need{}, l) != label.May(l) {
		t.Fatalf("All of no needs and %q is %t", l, label.All(nil, l))
	}
}

func TestMoreNeeds(t *testing.T) {
	for _, l := range shortLists(list("a", "", "a", "1", "a.b", "1", "b", "", "b", "2"), 3) {
		for _, needs := range shortLists(fewerNeeds(), 2) {
			for _, more := range fewerNeeds() {
				checkMore(t, needs, more, l)
			}
		}
		checkMore(t, slices.Repeat([]api.Need{isNot("x", "1")}, 8), lacks("x"), l)
	}
}

// R3: what is handed in.

func TestArgumentsStayAsTheyWere(t *testing.T) {
	given := func() ([]api.Need, []api.Pair) {
		needs := slices.Concat(fewerNeeds(), goodNeeds(), []api.Need{{}, {Kind: 5, Name: "a", Vals: texts(3)}, is("b", "2", "1", "2", "-")})
		return needs, list("a", "1", "b", "", "b", "2", "0", "-")
	}
	needs, l := given()
	kept, keptLabels := given()
	for n := range len(l) + 1 {
		label.May(l[:n])
		label.May(l[n:])
		for i, x := range needs {
			label.Met(x, l[:n])
			label.Not(x)
			// What stands behind a list's end is not its own.
			short := x
			short.Vals = x.Vals[:min(n, len(x.Vals))]
			label.Met(short, l[:n])
			label.Not(short)
			for k := i; k <= len(needs) && k <= i+9; k++ {
				label.Needs(needs[i:k])
				label.All(needs[i:k], l[:n])
				label.Same(needs[i:k], needs)
				label.Same(needs[i:k], kept[i:k])
			}
		}
	}
	if !reflect.DeepEqual(needs, kept) || !reflect.DeepEqual(l, keptLabels) {
		t.Errorf("what was handed in is changed: %q, %q", fmt.Sprint(needs), l)
	}
}

// TestAnswersAreNew: what a caller does to an answer, he does to nothing that was handed in, and the other way round.
func TestAnswersAreNew(t *testing.T) {
	for _, kind := range []int{api.Is, api.IsNot} {
		for size := 1; size <= 8; size++ {
			all := texts(9)
			n := api.Need{Kind: kind, Name: "a", Vals: all[:size]}
			not, _ := label.Not(n)
			for i := range n.Vals {
				n.Vals[i] = "changed"
			}
			if !slices.Equal(not.Vals, texts(size)) {
				t.Errorf("kind %d, %d values: the answer changed with what was handed in: %v", kind, size, not)
			}
			all = texts(9)
			n.Vals = all[:size]
			not, _ = label.Not(n)
			for i := range not.Vals {
				not.Vals[i] = "changed"
			}
			_ = append(not.Vals, "more")
			if !slices.Equal(all, texts(9)) {
				t.Errorf("kind %d, %d values: what was handed in changed with the answer: %v", kind, size, all)
			}
		}
	}
	for _, kind := range []int{api.Has, api.Lacks} {
		all := texts(3)
		not, _ := label.Not(api.Need{Kind: kind, Name: "a", Vals: all[:0]})
		_ = append(not.Vals, "more")
		if !slices.Equal(all, texts(3)) {
			t.Errorf("kind %d: what was handed in changed with the answer: %v", kind, all)
		}
	}
}

// TestOnceMore: what was asked in between has nothing to do with what is answered.
func TestOnceMore(t *testing.T) {
	l := list("a", "1", "b", "")
	for _, other := range append(fewNeeds(), badNeeds()...) {
		label.Met(other, many(8))
		label.Not(other)
		label.All([]api.Need{other, has("c")}, nil)
		if !label.Met(is("a", "1", "2"), l) || label.Met(has("c"), l) || !label.May(l) {
			t.Fatalf("behind %.200q it is another answer", fmt.Sprint(other))
		}
	}
}

// FuzzLabel holds the calls against the words at whatever texts and numbers: none panics, and what they answer fits together.
func FuzzLabel(f *testing.F) {
	f.Add(1, "a", "1", "2", "b", "")
	f.Add(2, "a.b", "", "web", "a0b", "web")
	f.Add(3, "app.kind", "-", label20, name60, label21)
	f.Add(4, "c", "", "", "c", "x.y")
	f.Add(-1, "\xff", " ", "A", name61, "é")
	f.Fuzz(func(t *testing.T, kind int, a, x, y, b, z string) {
		needs := []api.Need{
			{Kind: kind, Name: a}, {Kind: kind, Name: a, Vals: []string{x}}, {Kind: kind, Name: b, Vals: []string{x, y, z}},
			is(a, x), is(b, y, z), isNot(a, x, y), isNot(b, z), has(a), lacks(b), {Kind: api.Has, Name: a, Vals: []string{x}},
		}
		lists := [][]api.Pair{nil, list(a, x), list(b, z), list(a, x, b, z), list(b, z, a, x), list(a, x, a, y), append(many(7), list(a, x, b, z)...), append(many(7), list("z"+a, x)...)}
		for _, l := range lists {
			if label.May(l) != mayByWords(l) {
				t.Errorf("May(%q) is %t", l, label.May(l))
			}
			for i, n := range needs {
				if label.Needs([]api.Need{n}) != needByWords(n) || label.Met(n, l) != metByWords(n, l) {
					t.Errorf("of %q and %q: Needs is %t, Met %t", fmt.Sprint(n), l, label.Needs([]api.Need{n}), label.Met(n, l))
				}
				if label.All(needs[:i], l) != allByWords(needs[:i], l) || label.All(needs[i:], l) != allByWords(needs[i:], l) {
					t.Errorf("All(%q, %q): %t, %t", fmt.Sprint(needs), l, label.All(needs[:i], l), label.All(needs[i:], l))
				}
				checkOneOfBoth(t, n, l)
				checkMore(t, needs[:i], n, l)
				for _, o := range needs {
					if label.Same([]api.Need{n}, []api.Need{o}) != sameNeed(n, o) {
						t.Errorf("Same(%q, %q) is not %t", fmt.Sprint(n), fmt.Sprint(o), sameNeed(n, o))
					}
				}
			}
		}
	})
}
