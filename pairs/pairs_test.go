package pairs_test

import (
	"fmt"
	"slices"
	"strings"
	"testing"

	"toll/api"
	"toll/pairs"
)

// Texts of the edges that the limits name.
var (
	text40  = strings.Repeat("a", api.MaxVal)
	text41  = strings.Repeat("a", api.MaxVal+1)
	endless = strings.Repeat("a", 1<<20)
)

const letters = "abcdefghijklmnopqrstuvwxyzABCDEFGHIJKLMNOPQRSTUVWXYZ"

// signs are those that the chapter names, in its order.
const signs = "!#$%&'*+-.^_|~\x60"

func TestEdges(t *testing.T) {
	if api.MaxVal != 40 || len(text40) != 40 || len(text41) != 41 || len(signs) != 15 {
		t.Error("the edges' texts have other sizes than they should")
	}
}

// list is pairs of names and values, one behind the other, with room behind them.
func list(texts ...string) []api.Pair {
	out := make([]api.Pair, 0, len(texts))
	for i := 0; i+1 < len(texts); i += 2 {
		out = append(out, api.Pair{Name: texts[i], Val: texts[i+1]})
	}
	return out
}

func TestToken(t *testing.T) {
	for _, s := range []string{"a", "Z", "0", "Host", "x-1", "X-Forwarded-For", "-", ".", signs, letters[:40], "0123456789", text40, strings.Repeat("~", 40)} {
		if !pairs.Token(s) {
			t.Errorf("Token(%q) is false", s)
		}
	}
	for _, s := range []string{
		"", " ", " a", "a ", "a b", "a:", ":a", "a=b", "a/b", "a,b", "a;b", "a\tb", "a\r\n", "\x00", "a\x00", "\x7f",
		"(", ")", "<", ">", "@", "[", "]", "{", "}", "\\", "\"", "?",
		"é", "aé", "\uff41", "\u212a", "\xff", "a\x80", "\xc3", text41, text40 + " ", strings.Repeat("!", 41), endless,
	} {
		if pairs.Token(s) {
			t.Errorf("Token(%.80q) is true", s)
		}
	}
}

func TestTokenOctets(t *testing.T) {
	const all = letters + "0123456789" + signs
	for c := range 256 {
		s := string([]byte{byte(c)})
		want := strings.Contains(all, s)
		for _, text := range []string{s, "a" + s, s + "a", "a" + s + "a", strings.Repeat(s, 40), text40[1:] + s, s + text40[1:]} {
			if pairs.Token(text) != want {
				t.Errorf("Token(%q) is %t", text, !want)
			}
		}
	}
}

func TestValue(t *testing.T) {
	for _, s := range []string{"", "a", "a b", "a  b", "a b c", "~", "!", "a:b", "text/html; q=0.5, */*", "\"\\\"", text40, "a" + strings.Repeat(" ", 38) + "b", strings.Repeat("~", 40)} {
		if !pairs.Value(s) {
			t.Errorf("Value(%q) is false", s)
		}
	}
	for _, s := range []string{
		" ", "  ", " a", "a ", " a ", " a b", "a b ", "\t", "a\tb", "\ta", "a\t", "a\r\nb", "\n", "\x00", "a\x00", "\x1f", "\x7f", "\x80", "\xff",
		"é", "aéa", "\u00a0", "\uff41", text41, text40 + " ", " " + text40, text40[1:] + " ", " " + text40[1:], strings.Repeat(" ", 40), endless,
	} {
		if pairs.Value(s) {
			t.Errorf("Value(%.80q) is true", s)
		}
	}
}

func TestValueOctets(t *testing.T) {
	for c := range 256 {
		s := string([]byte{byte(c)})
		inner := c >= 32 && c <= 126
		outer := inner && c != 32
		if text := "a" + s + "a"; pairs.Value(text) != inner {
			t.Errorf("Value(%q) is %t", text, !inner)
		}
		for _, text := range []string{s, "a" + s, s + "a", s + s, strings.Repeat(s, 40), text40[1:] + s, s + text40[1:]} {
			if pairs.Value(text) != outer {
				t.Errorf("Value(%q) is %t", text, !outer)
			}
		}
	}
}

func TestLengths(t *testing.T) {
	for n := range 300 {
		for _, c := range []string{"a", "Z", "0", "!"} {
			s := strings.Repeat(c, n)
			if got := pairs.Token(s); got != (n >= 1 && n <= 40) {
				t.Errorf("Token of %d octets %q is %t", n, c, got)
			}
			if got := pairs.Value(s); got != (n <= 40) {
				t.Errorf("Value of %d octets %q is %t", n, c, got)
			}
		}
	}
}

func TestSame(t *testing.T) {
	for _, c := range []struct {
		a, b string
		want bool
	}{
		{"", "", true},
		{"Host", "hOST", true},
		{"X-Ab", "x-aB", true},
		{"a", "a", true},
		{"A b:", "a B:", true}, // no tokens: of whatever texts
		{"\xffA", "\xffa", true},
		{text41, strings.ToUpper(text41), true},
		{endless, strings.ToUpper(endless), true},
		{"", "a", false},
		{"a", "", false},
		{"a", "b", false},
		{"a", "aa", false},
		{"a", "a ", false},
		{"x-a", "x_a", false},
		{"[", "{", false}, // as far apart as letters of both sizes
		{"@", "\x60", false},
		{"^", "~", false},
		{"]", "}", false},
		{"\\", "|", false},
		{"É", "é", false},
		{"\u212a", "k", false}, // the sign of kelvin, that the library takes for a k
		{"\u017f", "s", false},
		{"\xff", "\xfe", false},
		{"\xff", "\ufffd", false},
		{"\xc1", "\xe1", false},
		{endless, endless[1:], false},
	} {
		if got := pairs.Same(c.a, c.b); got != c.want {
			t.Errorf("Same(%.80q, %.80q) is %t", c.a, c.b, got)
		}
		if got := pairs.Same(c.b, c.a); got != c.want {
			t.Errorf("Same(%.80q, %.80q) is %t", c.b, c.a, got)
		}
	}
}

func TestSameOctets(t *testing.T) {
	for c := range 256 {
		for d := range 256 {
			a, b := string([]byte{byte(c)}), string([]byte{byte(d)})
			i, j := strings.Index(letters, a), strings.Index(letters, b)
			want := c == d || i >= 0 && j >= 0 && i%26 == j%26
			if pairs.Same(a, b) != want || pairs.Same("x"+a+"Y", "X"+b+"y") != want {
				t.Errorf("Same(%q, %q) is %t", a, b, !want)
			}
		}
	}
}

// some is a list with names of both sizes, several times, and one that is empty.
func some() []api.Pair {
	return list("A", "1", "b", "2", "a", "3", "", "4", "[", "5", "B", "", "A", "6")
}

func TestGet(t *testing.T) {
	for _, c := range []struct {
		l     []api.Pair
		name  string
		val   string
		there bool
	}{
		{list("host", "a"), "Host", "a", true}, // the chapter's example 1
		{nil, "", "", false},
		{nil, "a", "", false},
		{[]api.Pair{}, "a", "", false},
		{[]api.Pair{{}}, "", "", true},
		{list("a", ""), "a", "", true},
		{list("", "x"), "", "x", true},
		{list("a", "x"), "", "", false},
		{some(), "a", "1", true},
		{some(), "A", "1", true},
		{some(), "B", "2", true},
		{some(), "", "4", true},
		{some(), "[", "5", true},
		{some(), "{", "", false},
		{some(), "c", "", false},
		{some(), "ab", "", false},
		{some()[1:], "A", "3", true},
		{some()[3:], "a", "6", true},
		{some()[3:], "b", "", true},
		{list("\xff", "x"), "\xff", "x", true},
		{list("\xff", "x"), "\ufffd", "", false},
		{list("x", "1", endless, "2"), strings.ToUpper(endless), "2", true},
	} {
		if val, there := pairs.Get(c.l, c.name); val != c.val || there != c.there {
			t.Errorf("Get(%.80q, %.80q): %q, %t", fmt.Sprint(c.l), c.name, val, there)
		}
	}
}

func TestAll(t *testing.T) {
	for _, c := range []struct {
		l    []api.Pair
		name string
		want []string
	}{
		{nil, "", nil},
		{nil, "a", nil},
		{[]api.Pair{{}}, "", []string{""}},
		{some(), "a", []string{"1", "3", "6"}},
		{some(), "A", []string{"1", "3", "6"}},
		{some(), "b", []string{"2", ""}},
		{some(), "", []string{"4"}},
		{some(), "[", []string{"5"}},
		{some(), "{", nil},
		{some(), "c", nil},
		{list("a", "1", "a", "1"), "a", []string{"1", "1"}},
		{list("a", "2", "A", "1"), "a", []string{"2", "1"}},
		{slices.Repeat(list("x", "y"), 1000), "X", slices.Repeat([]string{"y"}, 1000)},
	} {
		if got := pairs.All(c.l, c.name); !slices.Equal(got, c.want) {
			t.Errorf("All(%q, %q): %q, want %q", c.l, c.name, got, c.want)
		}
	}
}

func TestAdd(t *testing.T) {
	for _, c := range []struct {
		l         []api.Pair
		name, val string
		want      []api.Pair
	}{
		{nil, "", "", []api.Pair{{}}},
		{[]api.Pair{}, "a", "1", list("a", "1")},
		{list("a", "1"), "a", "1", list("a", "1", "a", "1")},
		{list("A", "1"), "a", "", list("A", "1", "a", "")},
		{list("b", "2", "c", "3"), "a", "1", list("b", "2", "c", "3", "a", "1")},
		{list("b", "2"), "no token", "\xff", list("b", "2", "no token", "\xff")},
		{slices.Repeat(list("x", "y"), 100), "x", "y", slices.Repeat(list("x", "y"), 101)}, // no limit holds here
	} {
		if got := pairs.Add(c.l, c.name, c.val); !slices.Equal(got, c.want) {
			t.Errorf("Add(%q, %q, %q): %q", c.l, c.name, c.val, got)
		}
	}
}

func TestDrop(t *testing.T) {
	for _, c := range []struct {
		l    []api.Pair
		name string
		want []api.Pair
	}{
		{nil, "", nil},
		{nil, "a", nil},
		{[]api.Pair{{}}, "", nil},
		{list("a", "1"), "", list("a", "1")},
		{list("a", "1"), "A", nil},
		{list("a", "1", "b", "2", "c", "3"), "A", list("b", "2", "c", "3")},
		{list("a", "1", "b", "2", "c", "3"), "B", list("a", "1", "c", "3")},
		{list("a", "1", "b", "2", "c", "3"), "C", list("a", "1", "b", "2")},
		{list("a", "1", "b", "2", "c", "3"), "d", list("a", "1", "b", "2", "c", "3")},
		{some(), "a", list("b", "2", "", "4", "[", "5", "B", "")},
		{some(), "B", list("A", "1", "a", "3", "", "4", "[", "5", "A", "6")},
		{some(), "", list("A", "1", "b", "2", "a", "3", "[", "5", "B", "", "A", "6")},
		{some(), "{", some()},
		{list("a", "1", "A", "2", "a", "3"), "a", nil},
		{slices.Repeat(list("x", "y"), 1000), "X", nil},
	} {
		if got := pairs.Drop(c.l, c.name); !slices.Equal(got, c.want) {
			t.Errorf("Drop(%q, %q): %q, want %q", c.l, c.name, got, c.want)
		}
	}
}

func TestSet(t *testing.T) {
	for _, c := range []struct {
		l         []api.Pair
		name, val string
		want      []api.Pair
	}{
		{list("a", "1", "b", "2", "A", "4"), "a", "3", list("a", "3", "b", "2")}, // the chapter's example 2
		{nil, "", "", []api.Pair{{}}},
		{nil, "a", "1", list("a", "1")},
		{[]api.Pair{}, "a", "1", list("a", "1")},
		{list("", "1"), "", "2", list("", "2")},
		{list("a", "1"), "", "2", list("a", "1", "", "2")},
		{list("A", "1"), "a", "1", list("a", "1")}, // its name is the new one, too
		{list("a", "1"), "a", "1", list("a", "1")},
		{list("a", "1"), "A", "", list("A", "")},
		{list("a", "1", "b", "2", "c", "3"), "A", "9", list("A", "9", "b", "2", "c", "3")},
		{list("a", "1", "b", "2", "c", "3"), "B", "9", list("a", "1", "B", "9", "c", "3")},
		{list("a", "1", "b", "2", "c", "3"), "C", "9", list("a", "1", "b", "2", "C", "9")},
		{list("a", "1", "b", "2", "c", "3"), "d", "9", list("a", "1", "b", "2", "c", "3", "d", "9")},
		{some(), "a", "9", list("a", "9", "b", "2", "", "4", "[", "5", "B", "")},
		{some()[1:], "a", "9", list("b", "2", "a", "9", "", "4", "[", "5", "B", "")},
		{some(), "b", "9", list("A", "1", "b", "9", "a", "3", "", "4", "[", "5", "A", "6")},
		{some(), "[", "9", list("A", "1", "b", "2", "a", "3", "", "4", "[", "9", "B", "", "A", "6")},
		{some(), "{", "9", append(some(), api.Pair{Name: "{", Val: "9"})},
		{list("a", "1", "a", "9", "b", "2"), "a", "9", list("a", "9", "b", "2")},
		{list("b", "2", "A", "1", "a", "3"), "a", "9", list("b", "2", "a", "9")},
		{list("b", "2"), "no token", "\xff", list("b", "2", "no token", "\xff")},
		{slices.Repeat(list("x", "y"), 1000), "X", "z", list("X", "z")},
	} {
		if got := pairs.Set(c.l, c.name, c.val); !slices.Equal(got, c.want) {
			t.Errorf("Set(%q, %q, %q): %q, want %q", c.l, c.name, c.val, got, c.want)
		}
	}
}

func TestHolds(t *testing.T) {
	for _, c := range []struct {
		ask, l       []api.Pair
		folded, bare bool
	}{
		{list("x", "1"), list("X", "1"), true, false}, // the chapter's example 3
		{nil, nil, true, true},
		{nil, some(), true, true},
		{[]api.Pair{}, []api.Pair{}, true, true},
		{list("a", "1"), nil, false, false},
		{[]api.Pair{{}}, nil, false, false},
		{[]api.Pair{{}}, []api.Pair{{}}, true, true},
		{list("", "4"), some(), true, true},
		{list("a", ""), list("b", ""), false, false}, // that it is not there is not that it is empty
		{list("a", ""), list("a", ""), true, true},
		{list("a", "x"), list("a", "X"), false, false}, // values are never folded
		{list("a", "1"), list("a", "11"), false, false},
		{list("a", "1"), some(), true, false},
		{list("A", "1"), some(), true, true},
		{list("a", "3"), some(), false, true},
		{list("A", "3"), some(), false, false},
		{list("A", "6"), some(), false, false}, // the first pair counts, not any
		{list("b", "2"), some(), true, true},
		{list("B", ""), some(), false, true},
		{list("[", "5"), some(), true, true},
		{list("{", "5"), some(), false, false},
		{list("c", ""), some(), false, false},
		{list("b", "2", "A", "1"), some(), true, true},
		{list("A", "1", "a", "3"), some(), false, true},
		{list("A", "1", "c", "1"), some(), false, false},
		{list("c", "1", "A", "1"), some(), false, false},
		{list("A", "1", "b", "3", "[", "5"), some(), false, false},
		{list("A", "1", "A", "1"), some(), true, true}, // one name twice
		{list("A", "1", "A", "6"), some(), false, false},
		{list("A", "6", "A", "1"), some(), false, false},
		{list("a", "1", "A", "1"), some(), true, false},
		{list("A", "1", "A", "1"), list("A", "1"), true, true},
		{some(), some(), false, false},
		{some()[:2], some(), true, true},
		{list("\xff", "x"), list("\ufffd", "x"), false, false},
	} {
		if got := pairs.Holds(c.ask, c.l, true); got != c.folded {
			t.Errorf("Holds(%q, %q), with fold, is %t", c.ask, c.l, got)
		}
		if got := pairs.Holds(c.ask, c.l, false); got != c.bare {
			t.Errorf("Holds(%q, %q), without fold, is %t", c.ask, c.l, got)
		}
	}
}

// foldByWords is a name folded, as layer 1's words have it.
func foldByWords(s string) string {
	b := []byte(s)
	for i, c := range b {
		if at := strings.IndexByte(letters[26:], c); at >= 0 {
			b[i] = letters[at]
		}
	}
	return string(b)
}

// placesByWords is where pairs' names are the same as a name.
func placesByWords(l []api.Pair, name string, fold bool) []int {
	var out []int
	for i, p := range l {
		if p.Name == name || fold && foldByWords(p.Name) == foldByWords(name) {
			out = append(out, i)
		}
	}
	return out
}

func tokenByWords(s string) bool {
	return s != "" && len(s) <= 40 && strings.Trim(s, letters+"0123456789"+signs) == ""
}

func valueByWords(s string) bool {
	for _, c := range []byte(s) {
		if c < 32 || c > 126 {
			return false
		}
	}
	return len(s) <= 40 && strings.Trim(s, " ") == s
}

func holdsByWords(ask, l []api.Pair, fold bool) bool {
	held := 0
	for _, p := range ask {
		if at := placesByWords(l, p.Name, fold); len(at) > 0 && l[at[0]].Val == p.Val {
			held++
		}
	}
	return held == len(ask)
}

// setByWords walks from the end, so that the places ahead stay what they are.
func setByWords(l []api.Pair, name, val string) []api.Pair {
	out := slices.Clone(l)
	at := placesByWords(l, name, true)
	if len(at) == 0 {
		return append(out, api.Pair{Name: name, Val: val})
	}
	for _, i := range slices.Backward(at[1:]) {
		out = slices.Delete(out, i, i+1)
	}
	out[at[0]] = api.Pair{Name: name, Val: val}
	return out
}

// checkRead holds Get and All against their words.
func checkRead(t *testing.T, l []api.Pair, name string) {
	t.Helper()
	var vals []string
	for _, i := range placesByWords(l, name, true) {
		vals = append(vals, l[i].Val)
	}
	if got := pairs.All(l, name); !slices.Equal(got, vals) {
		t.Fatalf("All(%q, %q): %q, want %q", l, name, got, vals)
	}
	want := append(slices.Clone(vals), "")[0]
	if val, there := pairs.Get(l, name); val != want || there != (len(vals) > 0) {
		t.Fatalf("Get(%q, %q): %q, %t", l, name, val, there)
	}
}

// checkChange holds Add, Drop and Set against their words.
func checkChange(t *testing.T, l []api.Pair, name, val string) {
	t.Helper()
	var dropped []api.Pair
	for i, p := range l {
		if !slices.Contains(placesByWords(l, name, true), i) {
			dropped = append(dropped, p)
		}
	}
	if got := pairs.Drop(l, name); !slices.Equal(got, dropped) {
		t.Fatalf("Drop(%q, %q): %q", l, name, got)
	}
	if got, want := pairs.Set(l, name, val), setByWords(l, name, val); !slices.Equal(got, want) {
		t.Fatalf("Set(%q, %q, %q): %q, want %q", l, name, val, got, want)
	}
	if got := pairs.Add(l, name, val); len(got) != len(l)+1 || !slices.Equal(got[:len(l)], l) || got[len(l)] != (api.Pair{Name: name, Val: val}) {
		t.Fatalf("Add(%q, %q, %q): %q", l, name, val, got)
	}
}

// checkWhatFollows: what is set is got, once; what is dropped is not there; of another name all is as it was.
func checkWhatFollows(t *testing.T, l []api.Pair, name, val string, others []string) {
	t.Helper()
	set, dropped, added := pairs.Set(l, name, val), pairs.Drop(l, name), pairs.Add(l, name, val)
	if got, there := pairs.Get(set, name); got != val || !there || !slices.Equal(pairs.All(set, name), []string{val}) {
		t.Fatalf("Set(%q, %q, %q): %q, whose first value is %q, %t", l, name, val, set, got, there)
	}
	if _, there := pairs.Get(dropped, name); there || len(pairs.All(dropped, name)) != 0 {
		t.Fatalf("Drop(%q, %q): %q", l, name, dropped)
	}
	if got := pairs.Drop(added, name); !slices.Equal(got, dropped) {
		t.Fatalf("Drop(%q, %q): %q, want %q", added, name, got, dropped)
	}
	if got := pairs.Set(set, name, val); !slices.Equal(got, set) {
		t.Fatalf("Set(%q, %q, %q) once more: %q", set, name, val, got)
	}
	one := []api.Pair{{Name: name, Val: val}}
	if !pairs.Holds(one, set, true) || !pairs.Holds(one, set, false) || pairs.Holds(one, dropped, true) || pairs.Holds(one, dropped, false) {
		t.Fatalf("Holds(%q) of %q, or of %q", one, set, dropped)
	}
	for _, other := range others {
		if pairs.Same(name, other) {
			continue
		}
		want := pairs.All(l, other)
		for _, got := range [][]api.Pair{set, dropped, added} {
			if !slices.Equal(pairs.All(got, other), want) {
				t.Fatalf("of %q, %q is changed by what is done to %q: %q", l, other, name, got)
			}
		}
	}
}

// shortLists is all lists of at most n of these pairs.
func shortLists(of []api.Pair, n int) [][]api.Pair {
	out := [][]api.Pair{nil}
	last := out
	for range n {
		var next [][]api.Pair
		for _, l := range last {
			for _, p := range of {
				next = append(next, append(slices.Clone(l), p))
			}
		}
		out = append(out, next...)
		last = next
	}
	return out
}

func TestShortLists(t *testing.T) {
	names := []string{"", "a", "A", "aB", "[", "{", "c", "\xff"}
	for _, l := range shortLists(list("", "1", "a", "1", "A", "2", "Ab", "", "[", "3"), 5) {
		for _, name := range names {
			checkRead(t, l, name)
			for _, val := range []string{"", "1"} {
				checkChange(t, l, name, val)
				checkWhatFollows(t, l, name, val, names)
			}
		}
	}
}

func TestHoldsOfShortLists(t *testing.T) {
	of := list("a", "1", "A", "1", "a", "2", "", "")
	for _, ask := range shortLists(of, 3) {
		for _, l := range shortLists(of, 4) {
			for _, fold := range []bool{true, false} {
				if got := pairs.Holds(ask, l, fold); got != holdsByWords(ask, l, fold) {
					t.Fatalf("Holds(%q, %q, %t) is %t", ask, l, fold, got)
				}
			}
		}
	}
}

func TestArgumentsStayAsTheyWere(t *testing.T) {
	for n := range len(some()) + 1 {
		for _, name := range []string{"a", "A", "b", "", "[", "c"} {
			l, kept := some(), some()
			// Short of its end: what stands behind a list is not its own.
			pairs.Get(l[:n], name)
			pairs.All(l[:n], name)
			pairs.Add(l[:n], name, "9")
			pairs.Drop(l[:n], name)
			pairs.Set(l[:n], name, "9")
			pairs.Holds(l[:n], l, true)
			pairs.Holds(l, l[:n], false)
			if !slices.Equal(l, kept) {
				t.Fatalf("of %d pairs, and %q: they are %q, and were %q", n, name, l, kept)
			}
		}
	}
}

func TestAnswersAreNew(t *testing.T) {
	for n := range len(some()) + 1 {
		for _, name := range []string{"a", "b", "", "c"} {
			l := some()
			for _, got := range [][]api.Pair{pairs.Add(l[:n], name, "9"), pairs.Drop(l[:n], name), pairs.Set(l[:n], name, "9")} {
				for i := range got[:cap(got)] {
					got[:cap(got)][i] = api.Pair{Name: "x", Val: "y"}
				}
			}
			if !slices.Equal(l, some()) {
				t.Fatalf("of %d pairs, and %q: the list shares memory with an answer: %q", n, name, l)
			}
		}
	}
}

// FuzzPairs holds the calls against the words at whatever texts: none panics, and what they answer fits together.
func FuzzPairs(f *testing.F) {
	f.Add("Host", "a", "host", "b c", "x")
	f.Add("", "", "", " ", "\xff")
	f.Add("[", text40, "{", text41, "\u212a")
	f.Fuzz(func(t *testing.T, a, x, b, y, c string) {
		for _, s := range []string{a, x, b, y, c, a + b} {
			if pairs.Token(s) != tokenByWords(s) || pairs.Value(s) != valueByWords(s) {
				t.Errorf("Token(%q) is %t, Value is %t", s, pairs.Token(s), pairs.Value(s))
			}
		}
		if pairs.Same(a, b) != (foldByWords(a) == foldByWords(b)) {
			t.Errorf("Same(%q, %q) is %t", a, b, pairs.Same(a, b))
		}
		l := list(a, x, b, y, foldByWords(a), y, c, a, strings.ToUpper(b), x)
		names := []string{a, b, c, x, foldByWords(b), strings.ToUpper(c)}
		for _, name := range names {
			checkRead(t, l, name)
			checkChange(t, l, name, y)
			checkWhatFollows(t, l, name, x, names)
		}
		for _, ask := range [][]api.Pair{l[:1], l[1:3], l[2:], list(b, x), list(foldByWords(a), x, c, a)} {
			for _, fold := range []bool{true, false} {
				if pairs.Holds(ask, l, fold) != holdsByWords(ask, l, fold) {
					t.Errorf("Holds(%q, %q, %t) is %t", ask, l, fold, pairs.Holds(ask, l, fold))
				}
			}
		}
	})
}
