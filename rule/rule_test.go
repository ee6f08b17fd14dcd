package rule_test

import (
	"fmt"
	"math"
	"reflect"
	"slices"
	"strings"
	"testing"

	"toll/api"
	"toll/pairs"
	"toll/path"
	"toll/query"
	"toll/rule"
)

const capitals = "ABCDEFGHIJKLMNOPQRSTUVWXYZ"

// Texts of the edges that the limits name.
var (
	method10 = capitals[:api.MaxMethod]
	method11 = capitals[:api.MaxMethod+1]
	text40   = strings.Repeat("a", api.MaxVal)
	text41   = strings.Repeat("a", api.MaxVal+1)
	path60   = "/" + strings.Repeat("a", api.MaxPath-1)
	path61   = "/" + strings.Repeat("a", api.MaxPath)
	endless  = strings.Repeat("A", 1<<20)
)

func exact(s string) api.Path { return api.Path{Kind: api.Exact, Val: s} }

func prefix(s string) api.Path { return api.Path{Kind: api.Prefix, Val: s} }

// list is pairs of names and values, one behind the other, with room behind them.
func list(texts ...string) []api.Pair {
	out := make([]api.Pair, 0, len(texts))
	for i := 0; i+1 < len(texts); i += 2 {
		out = append(out, api.Pair{Name: texts[i], Val: texts[i+1]})
	}
	return out
}

// many is n pairs, no two names of which are the same.
func many(n int) []api.Pair {
	var out []api.Pair
	for i := range n {
		out = append(out, api.Pair{Name: fmt.Sprint("n", i), Val: fmt.Sprint("v", i)})
	}
	return out
}

// full is a match that asks for something of each part.
func full() api.Match {
	return api.Match{Path: prefix("/a"), Method: "GET", Head: list("X-A", "1", "y", "b c"), Query: list("q", "Z", "Q", "")}
}

// good is a request that full holds for.
func good() api.Request {
	return api.Request{Method: "GET", Host: "a.test", Path: "/a/b", Head: list("host", "a.test", "x-a", "1", "Y", "b c", "X-A", "2"), Query: list("Q", "", "q", "Z", "q", "z", "r", "1")}
}

func TestEdges(t *testing.T) {
	if api.MaxMethod != 10 || api.MaxAsks != 8 || len(method10) != 10 || len(method11) != 11 || len(text40) != 40 || len(text41) != 41 || len(path60) != 60 || len(path61) != 61 {
		t.Error("the limits, or the edges' texts, are others than they should")
	}
}

func TestMethod(t *testing.T) {
	for _, s := range []string{"A", "Z", "M", "GET", "PUT", "POST", "OPTIONS", "ZZZ", method10, capitals[16:]} {
		if !rule.Method(s) {
			t.Errorf("Method(%q) is false", s)
		}
	}
	for _, s := range []string{
		"", " ", "a", "get", "Get", "GEt", "GET ", " GET", "G ET", "GET1", "1", "M-SEARCH", "-", "A_B", "*", "GET\n", "GET\x00", "\x00", "GET,PUT",
		"É", "GÉT", "\uff21", "\u0391", "\xff", "GET\xff", "\xc1", "\u0141", method11, method10 + "a", endless, strings.Repeat("\xff", 1<<20),
	} {
		if rule.Method(s) {
			t.Errorf("Method(%.80q) is true", s)
		}
	}
}

func TestMethodOctets(t *testing.T) {
	for c := range 256 {
		s := string([]byte{byte(c)})
		want := strings.Contains(capitals, s)
		for _, text := range []string{s, "A" + s, s + "A", "A" + s + "A", strings.Repeat(s, 10), method10[1:] + s, s + method10[1:]} {
			if rule.Method(text) != want {
				t.Errorf("Method(%q) is %t", text, !want)
			}
			if rule.May(api.Match{Path: prefix("/"), Method: text}) != want {
				t.Errorf("May of the method %q is %t", text, !want)
			}
		}
		if rule.Method(strings.Repeat(s, 11)) {
			t.Errorf("Method of 11 times %q is true", s)
		}
	}
}

func TestMethodSizes(t *testing.T) {
	for n := range 300 {
		for _, c := range []string{"A", "M", "Z"} {
			if got := rule.Method(strings.Repeat(c, n)); got != (n >= 1 && n <= 10) {
				t.Errorf("Method of %d times %q is %t", n, c, got)
			}
		}
	}
}

func TestMayPathAndMethod(t *testing.T) {
	for _, p := range []api.Path{exact("/"), exact("/a"), exact("/a/"), exact("//"), exact(path60), prefix("/"), prefix("/a"), prefix("/a/b"), prefix(path60)} {
		for _, method := range []string{"", "A", "GET", method10} {
			if m := (api.Match{Path: p, Method: method}); !rule.May(m) {
				t.Errorf("May(%v) is false", m)
			}
		}
		for _, method := range []string{"get", " ", "GET ", "G\x00", method11, endless} {
			if rule.May(api.Match{Path: p, Method: method}) {
				t.Errorf("May of %v and the method %.80q is true", p, method)
			}
		}
	}
	for _, p := range []api.Path{{}, exact(""), exact("a"), exact("/a b"), exact("/?"), exact(path61), prefix(""), prefix("a"), prefix("/a/"), prefix("//"), prefix("/#"), prefix(path61),
		{Kind: 0, Val: "/"}, {Kind: 3, Val: "/"}, {Kind: -1, Val: "/a"}, {Kind: math.MaxInt, Val: "/"}, {Kind: math.MinInt, Val: "/"}, {Kind: 1<<32 + 1, Val: "/"}} {
		m := full()
		m.Path = p
		if rule.May(m) || rule.May(api.Match{Path: p}) {
			t.Errorf("May of %v is true", p)
		}
	}
	if !rule.May(full()) {
		t.Error("May(full) is false")
	}
	if rule.May(api.Match{}) {
		t.Error("May of nothing is true")
	}
}

// asHead and asQuery are matches that ask for one list alone.
func asHead(l []api.Pair) api.Match { return api.Match{Path: prefix("/"), Head: l} }

func asQuery(l []api.Pair) api.Match { return api.Match{Path: prefix("/"), Query: l} }

func TestMayPairs(t *testing.T) {
	for _, c := range []struct {
		l           []api.Pair
		head, query bool
	}{
		{nil, true, true},
		{[]api.Pair{}, true, true},
		{list("a", "1"), true, true},
		{list("a", ""), true, true}, // an empty value
		{list("a", "", "b", ""), true, true},
		{list("a", "1", "b", "1"), true, true}, // values may be the same, names not
		{list("a", "1", "A", "2"), false, true},
		{list("A", "1", "a", "1"), false, true},
		{list("x-Ab", "", "X-aB", ""), false, true},
		{list("a", "1", "a", "2"), false, false},
		{list("a", "1", "a", "1"), false, false},
		{list("a", "1", "b", "2", "a", "3"), false, false},
		{list("b", "1", "a", "2", "a", "3"), false, false},
		{list("a", "1", "b", "2", "A", "3"), false, true},
		{list("a", "1", "ab", "2", "abc", "3"), true, true},
		{list("^", "1", "~", "2"), true, true}, // as far apart as letters of both sizes
		{list("a", "", "", ""), false, false},
		{[]api.Pair{{}}, false, false},
		{list("", "1"), false, false},
		{list("a b", "1"), false, true},
		{list("a:", "1"), false, true},
		{list("é", "1"), false, true},
		{list("\xff", "1"), false, true},
		{list("\x00", "\x00"), false, true},
		{list("a", " x"), false, true},
		{list("a", "x "), false, true},
		{list("a", " "), false, true},
		{list("a", "x y"), true, true},
		{list("a", "\x1f"), false, true},
		{list("a", "\x7f"), false, true},
		{list("a", "é"), false, true},
		{list("a", "1", "b", "\n"), false, true},
		{list("a", "\n", "b", "1"), false, true},
		{list("a", "1", "b c", "2", "d", "3"), false, true},
		{list("a", "1", "", "2", "d", "3"), false, false},
		{list(text40, text40), true, true},
		{list(text41, "1"), false, false},
		{list("a", text41), false, false},
		{list("a", "1", "b", text41), false, false},
		{list("a", "1", text41, "2"), false, false},
		{list(strings.Repeat("\xff", 40), strings.Repeat("\xfe", 40)), false, true},
		{list(endless, ""), false, false},
		{list("a", endless), false, false},
	} {
		if got := rule.May(asHead(c.l)); got != c.head {
			t.Errorf("May of the head %.80q is %t", fmt.Sprint(c.l), got)
		}
		if got := rule.May(asQuery(c.l)); got != c.query {
			t.Errorf("May of the query %.80q is %t", fmt.Sprint(c.l), got)
		}
	}
}

func TestMayCounts(t *testing.T) {
	for n := range 30 {
		want := n <= 8
		if got := rule.May(asHead(many(n))); got != want {
			t.Errorf("May of a head of %d is %t", n, got)
		}
		if got := rule.May(asQuery(many(n))); got != want {
			t.Errorf("May of a query of %d is %t", n, got)
		}
	}
	both := api.Match{Path: exact(path60), Method: method10, Head: many(8), Query: many(8)}
	if !rule.May(both) {
		t.Error("May at all limits is false")
	}
	for _, l := range [][]api.Pair{make([]api.Pair, 9), make([]api.Pair, 1<<20), many(1000)} {
		if rule.May(asHead(l)) || rule.May(asQuery(l)) {
			t.Errorf("May of %d pairs is true", len(l))
		}
	}
}

// TestMayTwice has one name at each two of eight places, in letters of one size, and of both.
func TestMayTwice(t *testing.T) {
	for i := range 8 {
		for k := range i {
			l := many(8)
			l[i].Name = l[k].Name
			if rule.May(asHead(l)) || rule.May(asQuery(l)) {
				t.Errorf("May of one name at %d and %d is true", k, i)
			}
			l[i].Name = strings.ToUpper(l[k].Name)
			if rule.May(asHead(l)) {
				t.Errorf("May of a head with one name, of two sizes, at %d and %d is true", k, i)
			}
			if !rule.May(asQuery(l)) {
				t.Errorf("May of a query with one name, of two sizes, at %d and %d is false", k, i)
			}
		}
	}
}

// TestMayWrongAt has one pair that may not be at each of eight places.
func TestMayWrongAt(t *testing.T) {
	for i := range 8 {
		for _, p := range []api.Pair{{Name: "a b"}, {Name: "a", Val: " "}, {Name: "a", Val: "\xff"}} {
			l := many(8)
			l[i] = p
			if rule.May(asHead(l)) || !rule.May(asQuery(l)) {
				t.Errorf("May of %q at %d: %t as a head, %t as a query", p, i, rule.May(asHead(l)), rule.May(asQuery(l)))
			}
		}
		for _, p := range []api.Pair{{}, {Name: text41}, {Name: "a", Val: text41}} {
			l := many(8)
			l[i] = p
			if rule.May(asHead(l)) || rule.May(asQuery(l)) {
				t.Errorf("May of %q at %d is true", p, i)
			}
		}
	}
}

func TestSame(t *testing.T) {
	if !rule.Same(full(), full()) || !rule.Same(api.Match{}, api.Match{}) {
		t.Error("a match is not the same as itself")
	}
	if !rule.Same(api.Match{Head: []api.Pair{}, Query: nil}, api.Match{Head: nil, Query: []api.Pair{}}) {
		t.Error("a list that is nil, and one without elements, are not the same")
	}
	for i, change := range []func(m *api.Match){
		func(m *api.Match) { m.Path.Kind = api.Exact },
		func(m *api.Match) { m.Path.Val = "/b" },
		func(m *api.Match) { m.Path.Val = "/A" },
		func(m *api.Match) { m.Path = api.Path{} },
		func(m *api.Match) { m.Method = "" },
		func(m *api.Match) { m.Method = "PUT" },
		func(m *api.Match) { m.Method = "get" },
		func(m *api.Match) { m.Head = nil },
		func(m *api.Match) { m.Head = m.Head[:1] },
		func(m *api.Match) { m.Head = m.Head[1:] },
		func(m *api.Match) { m.Head[0].Name = "x-a" }, // octet by octet, not as a request's is told
		func(m *api.Match) { m.Head[1].Val = "b d" },
		func(m *api.Match) { m.Head = append(m.Head, api.Pair{}) },
		func(m *api.Match) { slices.Reverse(m.Head) },
		func(m *api.Match) { m.Query = nil },
		func(m *api.Match) { m.Query = m.Query[:1] },
		func(m *api.Match) { m.Query[0].Name = "r" },
		func(m *api.Match) { m.Query[1].Val = "z" },
		func(m *api.Match) { m.Query = append(m.Query, api.Pair{}) },
		func(m *api.Match) { slices.Reverse(m.Query) },
		func(m *api.Match) { m.Head, m.Query = m.Query, m.Head },
	} {
		m := full()
		change(&m)
		if rule.Same(m, full()) || rule.Same(full(), m) {
			t.Errorf("change %d: Same(%v, %v) is true", i, m, full())
		}
		if !rule.Same(m, clone(m)) {
			t.Errorf("change %d: Same of %v and itself is false", i, m)
		}
	}
}

// TestSameWrong: matches that may not be are the same as themselves, too.
func TestSameWrong(t *testing.T) {
	l := wrong()
	for i := range l {
		for k := range l {
			if got := rule.Same(l[i], l[k]); got != (i == k) {
				t.Errorf("Same(%d, %d) of matches that may not be is %t", i, k, got)
			}
		}
		if rule.Same(l[i], full()) || rule.Same(full(), l[i]) {
			t.Errorf("Same(%d) and one that may be is true", i)
		}
	}
}

// wrong is matches that may not be, each for one part alone; good would be held by what is left of them.
func wrong() []api.Match {
	root := prefix("/")
	return []api.Match{
		{},
		{Path: api.Path{Kind: 0, Val: "/"}},
		{Path: api.Path{Kind: 3, Val: "/"}},
		{Path: api.Path{Kind: -1, Val: "/a/b"}},
		{Path: prefix("")},
		{Path: prefix("/a/")},
		{Path: root, Method: "GET "},
		{Path: root, Method: "get"},
		{Path: root, Method: method11},
		{Path: root, Head: list("X-A", "1", "x-a", "1")},
		{Path: root, Head: list("X-A", "1", "X-A", "1")},
		{Path: root, Head: list("b ad", "1")},
		{Path: root, Head: list("bad", " 1")},
		{Path: root, Head: many(9)},
		{Path: root, Query: list("q", "Z", "q", "Z")},
		{Path: root, Query: list("", "1")},
		{Path: root, Query: list("long", text41)},
		{Path: root, Query: many(9)},
	}
}

// wrongGood is a request that has all that the wrong ones ask for.
func wrongGood(m api.Match) api.Request {
	r := good()
	r.Method = m.Method
	r.Head = append(slices.Clone(m.Head), r.Head...)
	r.Query = append(slices.Clone(m.Query), r.Query...)
	return r
}

func TestWrongHoldNever(t *testing.T) {
	for i, m := range wrong() {
		for _, r := range []api.Request{good(), wrongGood(m), {}, {Method: m.Method, Path: m.Path.Val, Head: m.Head, Query: m.Query}} {
			if rule.May(m) || rule.Holds(m, r) {
				t.Errorf("%d: May is %t, Holds(%.200q) is %t", i, rule.May(m), fmt.Sprint(m, r), rule.Holds(m, r))
			}
			if at, found := rule.First([]api.Match{m}, r); at != 0 || found {
				t.Errorf("%d: First of it alone: %d, %t", i, at, found)
			}
			if at, found := rule.First([]api.Match{m, {Path: prefix("/")}, m}, r); found != path.Is(r.Path) || found && at != 1 {
				t.Errorf("%d: First: %d, %t", i, at, found)
			}
		}
	}
	if at, found := rule.First(wrong(), good()); at != 0 || found {
		t.Errorf("First of wrong ones: %d, %t", at, found)
	}
}

func TestHolds(t *testing.T) {
	if !rule.Holds(full(), good()) {
		t.Fatal("full does not hold for good")
	}
	for i, c := range []struct {
		change func(m *api.Match, r *api.Request)
		want   bool
	}{
		{func(m *api.Match, r *api.Request) { r.Host = "" }, true},
		{func(m *api.Match, r *api.Request) { r.Method = "POST" }, false}, // the chapter's example 3
		{func(m *api.Match, r *api.Request) { r.Method = "get" }, false},
		{func(m *api.Match, r *api.Request) { r.Method = "" }, false},
		{func(m *api.Match, r *api.Request) { m.Method = "" }, true},
		{func(m *api.Match, r *api.Request) { m.Method, r.Method = "", "" }, true},
		{func(m *api.Match, r *api.Request) { m.Method, r.Method = "", "no method\xff" }, true},
		{func(m *api.Match, r *api.Request) { r.Path = "/a" }, true},
		{func(m *api.Match, r *api.Request) { r.Path = "/a/" }, true},
		{func(m *api.Match, r *api.Request) { r.Path = "/ab" }, false},
		{func(m *api.Match, r *api.Request) { r.Path = "/" }, false},
		{func(m *api.Match, r *api.Request) { r.Path = "/A/b" }, false},
		{func(m *api.Match, r *api.Request) { r.Path = "" }, false},
		{func(m *api.Match, r *api.Request) { r.Path = "/a?b" }, false},
		{func(m *api.Match, r *api.Request) { r.Path = "/a/" + endless }, false},
		{func(m *api.Match, r *api.Request) { m.Path, r.Path = prefix("/"), "" }, false},
		{func(m *api.Match, r *api.Request) { m.Path, r.Path = prefix("/"), "/x" }, true},
		{func(m *api.Match, r *api.Request) { m.Path = exact("/a/b") }, true},
		{func(m *api.Match, r *api.Request) { m.Path = exact("/a") }, false},
		{func(m *api.Match, r *api.Request) { r.Head = nil }, false},
		{func(m *api.Match, r *api.Request) { r.Head = list("x-a", "1") }, false},
		{func(m *api.Match, r *api.Request) { r.Head = list("y", "b c") }, false},
		{func(m *api.Match, r *api.Request) { r.Head = list("y", "b c", "x-a", "1") }, true},
		{func(m *api.Match, r *api.Request) { slices.Reverse(r.Head) }, false}, // the first field of its name counts
		{func(m *api.Match, r *api.Request) { r.Head[2].Val = "B C" }, false},
		{func(m *api.Match, r *api.Request) { m.Head[0].Val = "2" }, false},
		{func(m *api.Match, r *api.Request) { m.Head, r.Head = nil, nil }, true},
		{func(m *api.Match, r *api.Request) { m.Head, r.Head = list("a", ""), nil }, false},
		{func(m *api.Match, r *api.Request) { m.Head, r.Head = list("a", ""), list("A", "") }, true},
		{func(m *api.Match, r *api.Request) { r.Query = nil }, false},
		{func(m *api.Match, r *api.Request) { r.Query = list("q", "Z") }, false},
		{func(m *api.Match, r *api.Request) { r.Query = list("Q", "Z", "q", "") }, false},
		{func(m *api.Match, r *api.Request) { slices.Reverse(r.Query) }, false},
		{func(m *api.Match, r *api.Request) { r.Query = list("q", "Z", "Q", "") }, true},
		{func(m *api.Match, r *api.Request) { r.Query = append(list("", "", "Q", ""), r.Query...) }, true},
		{func(m *api.Match, r *api.Request) { m.Query, r.Query = nil, nil }, true},
		{func(m *api.Match, r *api.Request) { m.Query, r.Query = list("a", ""), nil }, false},
		{func(m *api.Match, r *api.Request) { m.Query, r.Query = list("a", ""), list("a", "") }, true},
		{func(m *api.Match, r *api.Request) { m.Query, r.Query = list("a", ""), list("A", "") }, false},
		{func(m *api.Match, r *api.Request) { r.Head, r.Query = r.Query, r.Head }, false},
		{func(m *api.Match, r *api.Request) { r.Head = append(r.Head, many(1000)...) }, true}, // a request's limits are not a match's
		{func(m *api.Match, r *api.Request) { r.Query = append(r.Query, many(1000)...) }, true},
		{func(m *api.Match, r *api.Request) { *m, *r = api.Match{}, api.Request{} }, false},
	} {
		m, r := full(), good()
		c.change(&m, &r)
		if got := rule.Holds(m, r); got != c.want {
			t.Errorf("%d: Holds(%.80q, %.80q) is %t", i, fmt.Sprint(m), fmt.Sprint(r), got)
		}
	}
}

func TestHoldsAtLimits(t *testing.T) {
	for n := range 10 {
		l := many(n)
		turned := slices.Clone(l)
		slices.Reverse(turned)
		m := api.Match{Path: exact(path60), Method: method10, Head: l, Query: l}
		r := api.Request{Method: method10, Path: path60, Head: turned, Query: turned}
		if got := rule.Holds(m, r); got != (n <= 8) {
			t.Errorf("of %d fields Holds is %t", n, got)
		}
		for i := range n {
			less := slices.Delete(slices.Clone(turned), i, i+1)
			if rule.Holds(m, api.Request{Method: method10, Path: path60, Head: less, Query: turned}) {
				t.Errorf("of %d fields, without one of them, Holds is true", n)
			}
			if rule.Holds(m, api.Request{Method: method10, Path: path60, Head: turned, Query: less}) {
				t.Errorf("of %d parts, without one of them, Holds is true", n)
			}
		}
	}
}

// nearTexts is a text with one octet another one, with one less, and with one more.
func nearTexts(s string) []string {
	out := []string{s + "a", "a" + s, s + "\x00"}
	for i := range len(s) {
		out = append(out, s[:i]+s[i+1:])
		for c := range 256 {
			if byte(c) != s[i] {
				out = append(out, s[:i]+string([]byte{byte(c)})+s[i+1:])
			}
		}
	}
	return out
}

func TestHoldsOneOctet(t *testing.T) {
	m := api.Match{Path: exact("/a/b"), Method: "GET", Head: list("X-a", "v V"), Query: list("q Q", "w W")}
	r := api.Request{Method: "GET", Path: "/a/b", Head: list("x-A", "v V"), Query: list("q Q", "w W")}
	if !rule.Holds(m, r) {
		t.Fatal("Holds is false ahead of any change")
	}
	for _, c := range []struct {
		s      string
		folded bool
		with   func(r *api.Request, s string)
	}{
		{"GET", false, func(r *api.Request, s string) { r.Method = s }},
		{"/a/b", false, func(r *api.Request, s string) { r.Path = s }},
		{"x-A", true, func(r *api.Request, s string) { r.Head = list(s, "v V") }},
		{"v V", false, func(r *api.Request, s string) { r.Head = list("x-A", s) }},
		{"q Q", false, func(r *api.Request, s string) { r.Query = list(s, "w W") }},
		{"w W", false, func(r *api.Request, s string) { r.Query = list("q Q", s) }},
	} {
		for _, s := range nearTexts(c.s) {
			near := r
			c.with(&near, s)
			want := c.folded && (s == "X-A" || s == "x-a")
			if got := rule.Holds(m, near); got != want {
				t.Errorf("with %q for %q, Holds is %t", s, c.s, got)
			}
		}
	}
}

// ranked is matches of which each comes ahead of all behind it, whatever else they have; each two neighbours differ first in another part of the order, or by another amount.
func ranked() []api.Match {
	one, two := list("a", "1"), list("a", "1", "b", "2")
	long, short := prefix("/a/b"), prefix("/a")
	return []api.Match{
		{Path: exact("/a")},
		{Path: long, Method: "GET", Head: two, Query: two},
		{Path: long, Method: "GET", Head: two, Query: one},
		{Path: long, Method: "GET", Head: two},
		{Path: long, Method: "PUT", Head: one, Query: two},
		{Path: long, Method: "PUT", Head: one},
		{Path: long, Method: "A", Query: two},
		{Path: long, Method: "A"},
		{Path: long, Head: two, Query: two},
		{Path: long, Head: two},
		{Path: long, Head: one, Query: two},
		{Path: long, Head: one},
		{Path: long, Query: two},
		{Path: long, Query: one},
		{Path: long},
		{Path: short, Method: "GET", Head: many(8), Query: many(8)},
		{Path: short, Method: "GET"},
		{Path: short, Head: many(8), Query: many(8)},
		{Path: short},
		{Path: prefix("/"), Method: "OPTIONS", Head: many(8), Query: many(8)},
		{Path: prefix("/")},
	}
}

func TestOrder(t *testing.T) {
	for i, a := range ranked() {
		for k, b := range ranked() {
			want := max(-1, min(1, i-k))
			if got := rule.Order(a, b); got != want {
				t.Errorf("Order(%v, %v): %d", a, b, got)
			}
		}
	}
}

func TestOrderExample(t *testing.T) {
	l := []api.Match{{Path: exact("/a")}, {Path: prefix("/a/b")}, {Path: prefix("/a"), Method: "GET"}, {Path: prefix("/a")}}
	for i := range len(l) - 1 {
		if rule.Order(l[i], l[i+1]) != -1 || rule.Order(l[i+1], l[i]) != 1 {
			t.Errorf("%v does not come ahead of %v", l[i], l[i+1])
		}
	}
}

// TestOrderParts has each part decide by itself: those ahead of it are the same, those behind it are the other way round.
func TestOrderParts(t *testing.T) {
	better := []func(m *api.Match){
		func(m *api.Match) { m.Path.Kind = api.Exact },
		func(m *api.Match) { m.Path.Val = "/a/b" },
		func(m *api.Match) { m.Method = "GET" },
		func(m *api.Match) { m.Head = list("a", "1", "b", "2") },
		func(m *api.Match) { m.Query = list("a", "1", "b", "2") },
	}
	base := api.Match{Path: prefix("/a"), Head: list("a", "1"), Query: list("a", "1")}
	for i := range better {
		for bits := range 1 << i { // which of the parts ahead both have
			a, b := base, base
			for k := range i {
				if bits&(1<<k) != 0 {
					better[k](&a)
					better[k](&b)
				}
			}
			better[i](&a)
			if rule.Order(a, b) != -1 || rule.Order(b, a) != 1 {
				t.Errorf("part %d alone: %d, %d", i, rule.Order(a, b), rule.Order(b, a))
			}
			for k := i + 1; k < len(better); k++ {
				better[k](&b)
			}
			if rule.Order(a, b) != -1 || rule.Order(b, a) != 1 {
				t.Errorf("part %d against all behind it: %d, %d", i, rule.Order(a, b), rule.Order(b, a))
			}
		}
	}
}

// TestOrderNot has matches that differ in nothing that the order goes by.
func TestOrderNot(t *testing.T) {
	for i, change := range []func(m *api.Match){
		func(m *api.Match) {},
		func(m *api.Match) { m.Path.Val = "/b" },
		func(m *api.Match) { m.Path.Val = "/A" },
		func(m *api.Match) { m.Path.Val = "\xff\xff" },
		func(m *api.Match) { m.Method = "PUT" },
		func(m *api.Match) { m.Method = method10 },
		func(m *api.Match) { m.Method = "get" }, // no method, but not empty: something is asked for
		func(m *api.Match) { m.Method = endless },
		func(m *api.Match) { m.Head = list("z", "9", "y", "8") },
		func(m *api.Match) { m.Head = make([]api.Pair, 2) },
		func(m *api.Match) { slices.Reverse(m.Head) },
		func(m *api.Match) { m.Query = list("z", "9", "y", "8") },
		func(m *api.Match) { m.Query = make([]api.Pair, 2) },
		func(m *api.Match) { m.Head, m.Query = m.Query, m.Head },
	} {
		m := full()
		change(&m)
		if rule.Order(m, full()) != 0 || rule.Order(full(), m) != 0 {
			t.Errorf("change %d: %d, %d", i, rule.Order(m, full()), rule.Order(full(), m))
		}
	}
	if rule.Order(api.Match{Head: []api.Pair{}}, api.Match{Query: []api.Pair{}}) != 0 {
		t.Error("a list that is nil comes elsewhere than one without elements")
	}
}

// TestOrderWrong has matches that may not be, however great, or small, their parts are.
func TestOrderWrong(t *testing.T) {
	var l []api.Match
	for _, kind := range []int{math.MinInt, math.MinInt + 1, -1 << 32, -1, 0, 1, 2, 3, 1 << 32, 1<<32 + 1, math.MaxInt - 1, math.MaxInt} {
		for _, val := range []string{endless, path61, "\xff", ""} {
			for _, method := range []string{"get", ""} {
				for _, n := range []int{1000, 9, 0} {
					l = append(l, api.Match{Path: api.Path{Kind: kind, Val: val}, Method: method, Head: make([]api.Pair, n), Query: make([]api.Pair, 1000-n)})
				}
			}
		}
	}
	for i := range l {
		for k := range l {
			if got := rule.Order(l[i], l[k]); got != max(-1, min(1, i-k)) {
				t.Fatalf("Order(%d, %d) of matches that may not be: %d", i, k, got)
			}
		}
	}
	for _, a := range wrong() {
		for _, b := range append(wrong(), ranked()...) {
			if got := rule.Order(a, b); got != orderByWords(a, b) {
				t.Errorf("Order(%v, %v): %d", a, b, got)
			}
		}
	}
}

func TestFirst(t *testing.T) {
	root, a, ab, get := api.Match{Path: prefix("/")}, api.Match{Path: prefix("/a")}, api.Match{Path: prefix("/a/b")}, api.Match{Path: prefix("/"), Method: "GET"}
	other, put, exactly := api.Match{Path: prefix("/x")}, api.Match{Path: prefix("/a"), Method: "PUT"}, api.Match{Path: exact("/a/b")}
	for _, c := range []struct {
		l     []api.Match
		at    int
		found bool
	}{
		{[]api.Match{root, a}, 1, true}, // the chapter's example 2
		{nil, 0, false},
		{[]api.Match{}, 0, false},
		{[]api.Match{root}, 0, true},
		{[]api.Match{other}, 0, false},
		{[]api.Match{{}}, 0, false},
		{[]api.Match{put, other, {}}, 0, false},
		{[]api.Match{a, root}, 0, true},
		{[]api.Match{root, root, root}, 0, true},
		{[]api.Match{other, root, root}, 1, true},
		{[]api.Match{put, other, root}, 2, true},
		{[]api.Match{put, a, put}, 1, true}, // the one that comes ahead does not hold
		{[]api.Match{a, put}, 0, true},
		{[]api.Match{root, a, ab, exactly}, 3, true},
		{[]api.Match{exactly, ab, a, root}, 0, true},
		{[]api.Match{root, get, root, get}, 1, true},
		{[]api.Match{get, a, get, a, root}, 1, true},
		{[]api.Match{ab, root, exactly, a, exactly}, 2, true},
		{[]api.Match{{Path: exact("/a/c")}, root}, 1, true},
		{append(slices.Repeat([]api.Match{other}, 1000), root), 1000, true},
		{append(slices.Repeat([]api.Match{root}, 1000), a), 1000, true},
		{append(slices.Repeat([]api.Match{root}, 1000), put), 0, true},
	} {
		if at, found := rule.First(c.l, good()); at != c.at || found != c.found {
			t.Errorf("First(%.200q): %d, %t", fmt.Sprint(c.l), at, found)
		}
	}
}

// TestFirstOfOneRank has several of one rank, of which one alone, or several, hold.
func TestFirstOfOneRank(t *testing.T) {
	r := api.Request{Path: "/aa", Head: list("n", "1")}
	holds, not := api.Match{Path: prefix("/aa"), Head: list("N", "1")}, api.Match{Path: prefix("/aa"), Head: list("N", "2")}
	if rule.Order(holds, not) != 0 {
		t.Fatal("they are of several ranks")
	}
	for n := range 7 {
		for bits := range 1 << n {
			var l []api.Match
			want := -1
			for i := range n {
				if bits&(1<<i) == 0 {
					l = append(l, not)
					continue
				}
				if want < 0 {
					want = i
				}
				l = append(l, holds)
			}
			at, found := rule.First(l, r)
			if found != (want >= 0) || at != max(want, 0) {
				t.Errorf("First of %d, those of %b hold: %d, %t", n, bits, at, found)
			}
		}
	}
}

// The chapter's words, said once more, step by step.

func mayByWords(m api.Match) bool {
	for i, p := range m.Head {
		for k, q := range m.Head {
			if i != k && strings.EqualFold(p.Name, q.Name) {
				return false // tokens alone come so far that they count: the library folds these as layer 1 does
			}
		}
		if i == 8 || !pairs.Token(p.Name) || !pairs.Value(p.Val) {
			return false
		}
	}
	names := map[string]int{}
	for _, p := range m.Query {
		names[p.Name]++
	}
	method := m.Method == "" || len(m.Method) <= 10 && strings.Trim(m.Method, capitals) == ""
	return path.May(m.Path) && method && len(m.Query) <= 8 && query.May(m.Query) && len(names) == len(m.Query)
}

func holdsByWords(m api.Match, r api.Request) bool {
	if !mayByWords(m) || !path.Holds(m.Path, r.Path) || m.Method != "" && m.Method != r.Method {
		return false
	}
	for _, p := range m.Head {
		if val, there := pairs.Get(r.Head, p.Name); !there || val != p.Val {
			return false
		}
	}
	for _, p := range m.Query {
		at := slices.IndexFunc(r.Query, func(q api.Pair) bool { return q.Name == p.Name })
		if at < 0 || r.Query[at].Val != p.Val {
			return false
		}
	}
	return true
}

func aheadByWords(a, b api.Match) bool {
	if a.Path.Kind != b.Path.Kind {
		return a.Path.Kind < b.Path.Kind
	}
	if len(a.Path.Val) != len(b.Path.Val) {
		return len(a.Path.Val) > len(b.Path.Val)
	}
	if (a.Method == "") != (b.Method == "") {
		return a.Method != ""
	}
	if len(a.Head) != len(b.Head) {
		return len(a.Head) > len(b.Head)
	}
	return len(a.Query) > len(b.Query)
}

func orderByWords(a, b api.Match) int {
	switch {
	case aheadByWords(a, b):
		return -1
	case aheadByWords(b, a):
		return 1
	}
	return 0
}

func firstByWords(l []api.Match, r api.Request) (int, bool) {
	for i, m := range l {
		behind := slices.ContainsFunc(l, func(o api.Match) bool { return holdsByWords(o, r) && aheadByWords(o, m) })
		if holdsByWords(m, r) && !behind {
			return i, true
		}
	}
	return 0, false
}

// allMatches is each path with each method, each head and each query of a few, some of which may not be.
func allMatches() []api.Match {
	var out []api.Match
	lists := [][]api.Pair{nil, list("a", "1"), list("A", "1"), list("b", ""), list("a", "1", "b", ""), list("a", "1", "A", "1"), list("b", "", "b", "")}
	for _, p := range []api.Path{exact("/a"), exact("/a/"), exact("/a/b"), prefix("/"), prefix("/a"), prefix("/b"), prefix("/a/b"), prefix("/a/"), {}, {Kind: 3, Val: "/"}} {
		for _, method := range []string{"", "GET", "PUT", "get"} {
			for _, head := range lists {
				for _, query := range lists {
					out = append(out, api.Match{Path: p, Method: method, Head: head, Query: query})
				}
			}
		}
	}
	return out
}

func allRequests() []api.Request {
	var out []api.Request
	lists := [][]api.Pair{nil, list("a", "1"), list("A", "1"), list("b", ""), list("B", "", "a", "1"), list("a", "2", "A", "1", "b", ""), list("A", "1", "a", "2", "b", "")}
	for _, s := range []string{"/", "/a", "/a/", "/a/b", "/ab", "/b/c", "", "/ "} {
		for _, method := range []string{"", "GET", "get"} {
			for _, head := range lists {
				for _, query := range lists {
					out = append(out, api.Request{Method: method, Path: s, Head: head, Query: query})
				}
			}
		}
	}
	return out
}

func TestAllMatches(t *testing.T) {
	l, requests := allMatches(), allRequests()
	held := 0
	for i, m := range l {
		if rule.May(m) != mayByWords(m) {
			t.Fatalf("May(%v) is %t", m, rule.May(m))
		}
		for _, r := range requests {
			got := rule.Holds(m, r)
			if got != holdsByWords(m, r) {
				t.Fatalf("Holds(%v, %v) is %t", m, r, got)
			}
			if got {
				held++
			}
		}
		for k, o := range l {
			if rule.Order(m, o) != orderByWords(m, o) {
				t.Fatalf("Order(%v, %v): %d", m, o, rule.Order(m, o))
			}
			if rule.Same(m, o) != (i == k) {
				t.Fatalf("Same(%v, %v) is %t", m, o, rule.Same(m, o))
			}
		}
	}
	if held == 0 {
		t.Error("none holds for any request: nothing was told of those that do")
	}
}

// few is matches of several ranks, more than one of some.
func few() []api.Match {
	return []api.Match{
		{Path: exact("/a")},
		{Path: prefix("/a"), Method: "GET"},
		{Path: prefix("/a"), Method: "PUT"},
		{Path: prefix("/a"), Head: list("a", "1")},
		{Path: prefix("/a"), Head: list("a", "2")},
		{Path: prefix("/b"), Head: list("a", "1")},
		{Path: prefix("/a"), Query: list("a", "1")},
		{Path: prefix("/a")},
		{Path: prefix("/a"), Method: "get"},
		{Path: prefix("/")},
	}
}

// shortLists is all lists of at most n of these matches.
func shortLists(of []api.Match, n int) [][]api.Match {
	out := [][]api.Match{nil}
	last := out
	for range n {
		var next [][]api.Match
		for _, l := range last {
			for _, m := range of {
				next = append(next, append(slices.Clone(l), m))
			}
		}
		out = append(out, next...)
		last = next
	}
	return out
}

func TestFirstOfShortLists(t *testing.T) {
	var requests []api.Request
	for _, s := range []string{"/a", "/a/b", "/b", "/c", ""} {
		for _, method := range []string{"GET", "PUT", "get"} {
			requests = append(requests, api.Request{Method: method, Path: s, Head: list("A", "1"), Query: list("a", "1")}, api.Request{Method: method, Path: s, Head: list("a", "2")})
		}
	}
	for _, l := range shortLists(few(), 4) {
		for _, r := range requests {
			wantAt, wantFound := firstByWords(l, r)
			if at, found := rule.First(l, r); at != wantAt || found != wantFound {
				t.Fatalf("First(%v, %v): %d, %t, want %d, %t", l, r, at, found, wantAt, wantFound)
			}
		}
	}
}

// checkOrder: never two ways, from one on to the next, and those of one rank stand to each other one alike.
func checkOrder(t *testing.T, a, b, c api.Match) {
	t.Helper()
	ab, bc, ac := rule.Order(a, b), rule.Order(b, c), rule.Order(a, c)
	if rule.Order(a, a) != 0 || rule.Order(b, a) != -ab {
		t.Fatalf("Order(%v, %v): %d, and the other way round %d", a, b, ab, rule.Order(b, a))
	}
	if ab <= 0 && bc <= 0 && ac != min(ab, bc) {
		t.Fatalf("Order of %v, %v, %v: %d, %d, but %d", a, b, c, ab, bc, ac)
	}
	if rule.Same(a, b) && ab != 0 {
		t.Fatalf("Order(%v, %v), that are the same: %d", a, b, ab)
	}
}

// checkFirst: what is first holds, no other one that holds comes ahead, and it stays so, whatever stands behind that does not hold, or does not come ahead.
func checkFirst(t *testing.T, l []api.Match, r api.Request, more api.Match) {
	t.Helper()
	at, found := rule.First(l, r)
	longer := append(slices.Clone(l), more)
	then, still := rule.First(longer, r)
	if !found {
		if at != 0 || slices.ContainsFunc(l, func(m api.Match) bool { return rule.Holds(m, r) }) {
			t.Fatalf("First(%v, %v): %d, and none", l, r, at)
		}
		if still != rule.Holds(more, r) || still && then != len(l) {
			t.Fatalf("First(%v, %v): %d, %t", longer, r, then, still)
		}
		return
	}
	for i, m := range l {
		if o := rule.Order(m, l[at]); rule.Holds(m, r) && (o < 0 || o == 0 && i < at) {
			t.Fatalf("First(%v, %v): %d", l, r, at)
		}
	}
	want := at
	if rule.Holds(more, r) && rule.Order(more, l[at]) < 0 {
		want = len(l)
	}
	if !rule.Holds(l[at], r) || !still || then != want {
		t.Fatalf("First(%v, %v): %d, and then %d, %t", l, r, at, then, still)
	}
}

// checkFewer: a match that asks for less holds for what one holds for that asks for more.
func checkFewer(t *testing.T, m api.Match, r api.Request) {
	t.Helper()
	for i := range m.Head {
		checkOneFewer(t, m, api.Match{Path: m.Path, Method: m.Method, Head: slices.Delete(slices.Clone(m.Head), i, i+1), Query: m.Query}, r)
	}
	for i := range m.Query {
		checkOneFewer(t, m, api.Match{Path: m.Path, Method: m.Method, Head: m.Head, Query: slices.Delete(slices.Clone(m.Query), i, i+1)}, r)
	}
	checkOneFewer(t, m, api.Match{Path: m.Path, Head: m.Head, Query: m.Query}, r)
}

func checkOneFewer(t *testing.T, more, less api.Match, r api.Request) {
	t.Helper()
	if rule.Holds(more, r) && !rule.Holds(less, r) {
		t.Fatalf("%v holds for %v, but not %v", more, r, less)
	}
	if rule.May(more) && !rule.May(less) || rule.Order(more, less) > 0 {
		t.Fatalf("of %v, %v: May(%t, %t), Order %d", more, less, rule.May(more), rule.May(less), rule.Order(more, less))
	}
}

func TestWhatFollows(t *testing.T) {
	l := slices.Concat(ranked(), few(), wrong())
	for _, a := range l {
		for _, b := range l {
			for _, c := range l {
				checkOrder(t, a, b, c)
			}
		}
	}
	for _, l := range shortLists(few(), 3) {
		for _, r := range []api.Request{{Path: "/a"}, {Method: "GET", Path: "/a/b"}, {Path: "/b", Head: list("A", "1")}, {Method: "get", Path: "/a", Head: list("a", "2"), Query: list("a", "1")}, {}} {
			for _, more := range few() {
				checkFirst(t, l, r, more)
			}
		}
	}
	for _, m := range allMatches() {
		for _, r := range []api.Request{{Method: "GET", Path: "/a/b", Head: list("a", "1", "b", ""), Query: list("a", "1", "A", "1", "b", "")}, {Method: "PUT", Path: "/a", Head: list("b", ""), Query: list("a", "1")}} {
			checkFewer(t, m, r)
		}
	}
}

func clone(m api.Match) api.Match {
	m.Head, m.Query = slices.Clone(m.Head), slices.Clone(m.Query)
	return m
}

// cut is the first n pairs: what stands behind them is not the list's own.
func cut(l []api.Pair, n int) []api.Pair { return l[:min(n, len(l))] }

func TestArgumentsStayAsTheyWere(t *testing.T) {
	for n := range 4 {
		matches := slices.Concat([]api.Match{full()}, few(), wrong(), []api.Match{full()})
		kept := slices.Concat([]api.Match{full()}, few(), wrong(), []api.Match{full()})
		r, keptRequest := good(), good()
		short := r
		short.Head, short.Query = cut(r.Head, n), cut(r.Query, n)
		for i, m := range matches {
			m.Head, m.Query = cut(m.Head, n), cut(m.Query, n)
			rule.Method(m.Method)
			rule.May(m)
			rule.Holds(m, short)
			rule.Holds(matches[i], r)
			for _, o := range matches {
				rule.Order(m, o)
				rule.Same(o, m)
			}
			rule.First(matches[:i], r)
			rule.First(matches[i:], short)
		}
		if !reflect.DeepEqual(matches, kept) || !reflect.DeepEqual(r, keptRequest) {
			t.Fatalf("of %d pairs: what was handed in is changed: %v, %v", n, matches, r)
		}
	}
}

// TestOnceMore: what was asked in between has nothing to do with what is answered.
func TestOnceMore(t *testing.T) {
	l, r := slices.Concat(wrong(), few(), ranked(), []api.Match{full()}), good()
	at, found := rule.First(l, r)
	for i, m := range l {
		rule.First(l[i:], api.Request{Path: "/b"})
		if again, still := rule.First(l, r); again != at || still != found || rule.Holds(m, r) != holdsByWords(m, r) {
			t.Fatalf("behind %d calls First is %d, %t, and was %d, %t", i, again, still, at, found)
		}
	}
}

// FuzzRule holds the calls against the words at whatever texts: none panics, and what they answer fits together.
func FuzzRule(f *testing.F) {
	f.Add(1, "/a", "GET", "a", "1", "A", "2", "/a")
	f.Add(2, "/", "", "", "", "", "", "/a/b")
	f.Add(2, "/a/", "get", "a b", " x", "\xff", text41, "")
	f.Add(-1, "\xff", method11, "[", "\x7f", "{", "", path61)
	f.Fuzz(func(t *testing.T, kind int, val, method, a, x, b, y, s string) {
		p := api.Path{Kind: kind, Val: val}
		l := []api.Match{
			{Path: p},
			{Path: p, Method: method, Head: list(a, x), Query: list(b, y)},
			{Path: p, Head: list(a, x, b, y)},
			{Path: p, Query: list(a, x, b, y)},
			{Path: prefix(val), Method: method, Head: list(b, y)},
			{Path: exact(s), Query: list(b, x)},
			{Path: prefix("/"), Method: "GET"},
		}
		requests := []api.Request{
			{Path: s},
			{Method: method, Path: val, Head: list(a, x, b, y), Query: list(a, x, b, y)},
			{Method: "GET", Path: s, Head: list(strings.ToUpper(b), y, a, x), Query: list(b, x, a, y)},
		}
		for _, m := range l {
			if rule.May(m) != mayByWords(m) {
				t.Errorf("May(%q) is %t", fmt.Sprint(m), rule.May(m))
			}
			for _, o := range l {
				checkOrder(t, m, o, l[0])
				if rule.Order(m, o) != orderByWords(m, o) || rule.Same(m, o) && !reflect.DeepEqual(m, o) {
					t.Errorf("of %q, %q: Order %d, Same %t", fmt.Sprint(m), fmt.Sprint(o), rule.Order(m, o), rule.Same(m, o))
				}
			}
			for _, r := range requests {
				if rule.Holds(m, r) != holdsByWords(m, r) {
					t.Errorf("Holds(%q, %q) is %t", fmt.Sprint(m), fmt.Sprint(r), rule.Holds(m, r))
				}
				checkFewer(t, m, r)
				checkFirst(t, l, r, m)
			}
		}
	})
}
