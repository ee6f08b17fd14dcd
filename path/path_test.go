package path_test

import (
	"math"
	"slices"
	"strings"
	"testing"

	"toll/api"
	"toll/path"
)

// Texts of the edges that the limits name.
var (
	path58  = "/" + strings.Repeat("a", api.MaxPath-3)
	path59  = "/" + strings.Repeat("a", api.MaxPath-2)
	path60  = "/" + strings.Repeat("a", api.MaxPath-1)
	path61  = "/" + strings.Repeat("a", api.MaxPath)
	slash60 = strings.Repeat("/", api.MaxPath)
	slash61 = strings.Repeat("/", api.MaxPath+1)
	endless = strings.Repeat("/a", 1<<20)
)

// Paths that do not end in /, but for / alone: each may be the Val of a Prefix.
var begins = []string{
	"/", "/a", "/A", "/a/b", "/a//b", "//a", "/.", "/..", "/a/../b", "/%20", "/%", "/!", "/~", "/*", "/a:80", "/a=b&c", "/\"", "/\\", "/a.b-c_d", path59, path60,
}

// Paths that end in /, with more ahead of it: each may be the Val of an Exact alone.
var slashed = []string{"//", "///", "/a/", "/a//", "/a/b/", "/~/", path58 + "/", path59 + "/", slash60}

var noPaths = []string{
	"", "a", "a/", "a/b", " ", " /", " /a", "/ ", "/a b", "/a ", "/?", "/#", "?", "#", "?/", "#/", "/a?", "/a?b", "/a#b", "/?/a", "/#/a", "/a/?",
	"/\x00", "/\x1f", "/\x7f", "/a\n", "/a\t", "/a\r\n", "\x00/", "/\x80", "/\xff", "\xff/", "/a\xff", "/\xc3", "/\xed\xa0\x80", "/\xc0\xaf", "\xc0\xaf", "\xaf",
	"/\u00e9", "/a/\u00e9/b", "/\ufffd", "/\u0100", "/\u0141", "\u2215a", "\uff0fa", "/\uff1f", "/\u2028", "/\U0001f600", "http://a", "*", ".", "./a", "%2f",
	path61, path60 + "/", path60 + "\xff", path60 + " ", slash61, endless, strings.Repeat("a", 1<<20), strings.Repeat("\xff", 1<<20),
}

// Kinds that no path is of.
var noKinds = []int{0, 3, 4, -1, -2, math.MaxInt, math.MinInt, 257, 1<<32 + 1, 1<<32 + 2}

func exact(s string) api.Path { return api.Path{Kind: api.Exact, Val: s} }

func prefix(s string) api.Path { return api.Path{Kind: api.Prefix, Val: s} }

func TestEdges(t *testing.T) {
	if api.MaxPath != 60 || len(path60) != 60 || len(path61) != 61 || len(slash60) != 60 || len(path59+"/") != 60 || len(path58) != 58 {
		t.Error("the edges' texts have other sizes than they should")
	}
}

func TestIs(t *testing.T) {
	for _, s := range slices.Concat(begins, slashed) {
		if !path.Is(s) {
			t.Errorf("Is(%q) is false", s)
		}
	}
	for _, s := range noPaths {
		if path.Is(s) {
			t.Errorf("Is(%.80q) is true", s)
		}
	}
}

func TestIsOctets(t *testing.T) {
	for c := range 256 {
		s := string([]byte{byte(c)})
		want := c >= 33 && c <= 126 && c != '?' && c != '#'
		for _, text := range []string{"/" + s, "/a" + s, "/" + s + "a", "/a/" + s + "/", path59 + s, "/" + s + path58} {
			if got := path.Is(text); got != want {
				t.Errorf("Is(%q) is %t", text, got)
			}
		}
		for _, text := range []string{s, s + "a", s + "/a"} {
			if got := path.Is(text); got != (s == "/") {
				t.Errorf("Is(%q) is %t", text, got)
			}
		}
	}
}

func TestIsTwoOctets(t *testing.T) {
	may := func(c int) bool { return c >= 33 && c <= 126 && c != '?' && c != '#' }
	for c := range 256 {
		for d := range 256 {
			text := string([]byte{'/', byte(c), byte(d)})
			if got := path.Is(text); got != (may(c) && may(d)) {
				t.Errorf("Is(%q) is %t", text, got)
			}
		}
	}
}

func TestIsLengths(t *testing.T) {
	for n := range 300 {
		for _, c := range []string{"a", "/", "~", "/a"} {
			s := "/" + strings.Repeat(c, n)
			if got := path.Is(s); got != (len(s) <= 60) {
				t.Errorf("Is of %d octets is %t", len(s), got)
			}
		}
	}
}

func TestMay(t *testing.T) {
	for _, s := range begins {
		if !path.May(exact(s)) || !path.May(prefix(s)) {
			t.Errorf("May of %q: %t, %t", s, path.May(exact(s)), path.May(prefix(s)))
		}
	}
	for _, s := range slashed {
		if !path.May(exact(s)) || path.May(prefix(s)) {
			t.Errorf("May of %q: %t, %t", s, path.May(exact(s)), path.May(prefix(s)))
		}
	}
	for _, s := range noPaths {
		if path.May(exact(s)) || path.May(prefix(s)) {
			t.Errorf("May of %.80q: %t, %t", s, path.May(exact(s)), path.May(prefix(s)))
		}
	}
}

func TestMayOfNoKind(t *testing.T) {
	for _, kind := range noKinds {
		for _, s := range slices.Concat(begins, slashed, noPaths) {
			if path.May(api.Path{Kind: kind, Val: s}) {
				t.Errorf("May of kind %d, %.80q is true", kind, s)
			}
		}
	}
}

func TestHolds(t *testing.T) {
	for _, c := range []struct {
		p    api.Path
		s    string
		want bool
	}{
		{prefix("/a"), "/a", true}, // the chapter's example 1
		{prefix("/a"), "/a/", true},
		{prefix("/a"), "/a/b", true},
		{prefix("/a"), "/ab", false},
		{prefix("/a"), "/a//", true},
		{prefix("/a"), "/a//b", true},
		{prefix("/a"), "/a/b/c", true},
		{prefix("/a"), "/", false},
		{prefix("/a"), "//", false},
		{prefix("/a"), "//a", false},
		{prefix("/a"), "/b", false},
		{prefix("/a"), "/A", false},
		{prefix("/a"), "/b/a", false},
		{prefix("/a"), "/a0", false}, // 0 comes just behind / in ASCII
		{prefix("/a"), "/a.", false},
		{prefix("/a"), "/a%2f", false},
		{prefix("/a/b"), "/a/b", true},
		{prefix("/a/b"), "/a/b/", true},
		{prefix("/a/b"), "/a/b/c", true},
		{prefix("/a/b"), "/a/bc", false},
		{prefix("/a/b"), "/a", false},
		{prefix("/a/b"), "/a/", false},
		{prefix("//a"), "//a/b", true},
		{prefix("//a"), "/a/b", false},
		{prefix("/"), "/", true},
		{prefix("/"), "//", true},
		{prefix("/"), "/a", true},
		{prefix("/"), "/a/b/", true},
		{prefix("/"), path60, true},
		{prefix("/"), slash60, true},
		{prefix(path60), path60, true},
		{prefix(path60), path59, false},
		{prefix(path59), path59 + "/", true},
		{prefix(path59), path60, false},
		{prefix(path58), path58 + "/a", true},
		{exact("/a"), "/a", true},
		{exact("/a"), "/a/", false},
		{exact("/a"), "/ab", false},
		{exact("/a"), "/a/b", false},
		{exact("/a"), "/A", false},
		{exact("/a/"), "/a/", true},
		{exact("/a/"), "/a", false},
		{exact("/a/"), "/a//", false},
		{exact("/a/"), "/a/b", false},
		{exact("/"), "/", true},
		{exact("/"), "/a", false},
		{exact("/"), "//", false},
		{exact(path60), path60, true},
		{exact(path60), path59, false},
		{exact(slash60), slash60, true},
	} {
		if got := path.Holds(c.p, c.s); got != c.want {
			t.Errorf("Holds(%v, %q) is %t", c.p, c.s, got)
		}
	}
}

func TestHoldsOfWrongInputs(t *testing.T) {
	all := slices.Concat(begins, slashed)
	for _, kind := range noKinds {
		for _, s := range all {
			if path.Holds(api.Path{Kind: kind, Val: s}, s) || path.Holds(api.Path{Kind: kind, Val: "/"}, s) {
				t.Errorf("Holds of kind %d for %q is true", kind, s)
			}
		}
	}
	for _, val := range slashed {
		for _, s := range append(slices.Clone(all), val, val+"a", val+"/", strings.TrimSuffix(val, "/")) {
			if path.Holds(prefix(val), s) {
				t.Errorf("Holds of Prefix %q for %q is true", val, s)
			}
		}
	}
	for _, val := range noPaths {
		for _, s := range append(slices.Clone(all), val, val+"/", val+"/a", "/"+val) {
			if path.Holds(exact(val), s) || path.Holds(prefix(val), s) {
				t.Errorf("Holds of %.80q for %.80q is true", val, s)
			}
		}
	}
	for _, s := range noPaths {
		for _, val := range append(slices.Clone(all), s, strings.TrimSuffix(s, "/")) {
			if path.Holds(exact(val), s) || path.Holds(prefix(val), s) {
				t.Errorf("Holds of %.80q for %.80q is true", val, s)
			}
		}
	}
}

// shortTexts is all texts of at most n of these octets.
func shortTexts(octets string, n int) []string {
	out := []string{""}
	last := out
	for range n {
		var next []string
		for _, s := range last {
			for _, c := range []byte(octets) {
				next = append(next, s+string([]byte{c}))
			}
		}
		out = append(out, next...)
		last = next
	}
	return out
}

// isByWords is Is as its words have it, octet by octet.
func isByWords(s string) bool {
	if s == "" || s[0] != '/' || len(s) > 60 {
		return false
	}
	for i := 0; i < len(s); i++ {
		if s[i] < 33 || s[i] > 126 || s[i] == '?' || s[i] == '#' {
			return false
		}
	}
	return true
}

func mayByWords(p api.Path) bool {
	if p.Kind != 1 && p.Kind != 2 || !isByWords(p.Val) {
		return false
	}
	return p.Kind == 1 || p.Val == "/" || p.Val[len(p.Val)-1] != '/'
}

// holdsByWords goes through what stands between the /s, not through octets.
func holdsByWords(p api.Path, s string) bool {
	if !mayByWords(p) || !isByWords(s) {
		return false
	}
	if p.Kind == 1 {
		return p.Val == s
	}
	if p.Val == "/" {
		return true
	}
	val, parts := strings.Split(p.Val, "/"), strings.Split(s, "/")
	return len(parts) >= len(val) && slices.Equal(parts[:len(val)], val)
}

func orderByWords(a, b api.Path) int {
	less := func(a, b api.Path) bool {
		if a.Kind != b.Kind {
			return a.Kind < b.Kind
		}
		if len(a.Val) != len(b.Val) {
			return len(a.Val) > len(b.Val)
		}
		return a.Val < b.Val
	}
	if less(a, b) {
		return -1
	}
	if less(b, a) {
		return 1
	}
	return 0
}

func swapByWords(p api.Path, with, s string) (string, api.Errno) {
	if p.Kind != 2 || !holdsByWords(p, s) || !mayByWords(api.Path{Kind: 2, Val: with}) {
		return "", api.ErrArg
	}
	tail := s
	if p.Val != "/" {
		tail = strings.Replace(s, p.Val, "", 1)
	} else if s == "/" {
		tail = ""
	}
	switch {
	case with != "/" && len(with)+len(tail) > 60:
		return "", api.ErrLarge
	case with != "/":
		return with + tail, api.OK
	case tail == "":
		return "/", api.OK
	}
	return tail, api.OK
}

// pathsOf is one of each kind, of those that are none, too.
func pathsOf(val string) []api.Path {
	return []api.Path{exact(val), prefix(val), {Kind: 0, Val: val}, {Kind: 3, Val: val}}
}

func TestShortTexts(t *testing.T) {
	texts := shortTexts("/ab?\xff", 4)
	for _, val := range texts {
		if path.Is(val) != isByWords(val) {
			t.Fatalf("Is(%q) is %t", val, path.Is(val))
		}
		for _, p := range pathsOf(val) {
			if path.May(p) != mayByWords(p) {
				t.Fatalf("May(%v) is %t", p, path.May(p))
			}
			for _, s := range texts {
				if path.Holds(p, s) != holdsByWords(p, s) {
					t.Fatalf("Holds(%v, %q) is %t", p, s, path.Holds(p, s))
				}
			}
		}
	}
}

func TestOrder(t *testing.T) {
	// Each one comes ahead of all behind it, whether it may be or not.
	var sorted []api.Path
	for _, kind := range []int{math.MinInt, -1, 0, api.Exact, api.Prefix, 3, math.MaxInt} {
		for _, val := range []string{
			endless, path61, path60, path59, "/a/b", "/a/c", "\xff\xff\xff\xff", "/aa", "/ab", "/b/", "/ba", "//", "/A", "/a", "/b", "/\xff", "aa", "\xff/", "/", "a", "\xff", "",
		} {
			sorted = append(sorted, api.Path{Kind: kind, Val: val})
		}
	}
	for i, a := range sorted {
		for k, b := range sorted {
			want := 0
			if i < k {
				want = -1
			} else if i > k {
				want = 1
			}
			if got := path.Order(a, b); got != want {
				t.Errorf("Order(%d %.40q, %d %.40q): %d, want %d", a.Kind, a.Val, b.Kind, b.Val, got, want)
			}
		}
	}
}

func TestOrderIsAnOrder(t *testing.T) {
	var few []api.Path
	for _, val := range shortTexts("/a\xff", 2) {
		few = append(few, pathsOf(val)...)
	}
	for _, a := range few {
		for _, b := range few {
			got := path.Order(a, b)
			if got != orderByWords(a, b) || got != -path.Order(b, a) || (got == 0) != (a == b) {
				t.Fatalf("Order(%v, %v): %d, turned round: %d", a, b, got, path.Order(b, a))
			}
			for _, c := range few {
				if got <= 0 && path.Order(b, c) <= 0 && path.Order(a, c) > 0 {
					t.Fatalf("Order does not go on from %v to %v to %v", a, b, c)
				}
			}
		}
	}
}

func TestSwap(t *testing.T) {
	for _, c := range []struct {
		val, with, s, want string
	}{
		{"/a", "/x", "/a/b", "/x/b"}, // the chapter's example 2
		{"/a", "/", "/a/b", "/b"},
		{"/a", "/", "/a", "/"},
		{"/", "/x", "/b", "/x/b"}, // the chapter's example 3
		{"/a", "/x", "/a", "/x"},
		{"/a", "/x", "/a/", "/x/"},
		{"/a", "/x", "/a//", "/x//"},
		{"/a", "/x", "/a/a", "/x/a"},
		{"/a", "/x/y", "/a", "/x/y"},
		{"/a", "/x/y", "/a/b/", "/x/y/b/"},
		{"/a", "/a", "/a/b", "/a/b"},
		{"/a", "/a/a", "/a/a", "/a/a/a"},
		{"/a/a", "/a", "/a/a/a", "/a/a"},
		{"/a/b", "/x", "/a/b/a/b", "/x/a/b"},
		{"/a", "/", "/a/", "/"},
		{"/a", "/", "/a//", "//"},
		{"/a", "/", "/a//b", "//b"},
		{"/a/b", "/", "/a/b/c", "/c"},
		{"/", "/x", "/", "/x"},
		{"/", "/x", "//", "/x//"},
		{"/", "/x", "/b/", "/x/b/"},
		{"/", "/x/y", "/x", "/x/y/x"},
		{"/", "/", "/", "/"},
		{"/", "/", "//", "//"},
		{"/", "/", "/b", "/b"},
		{"/", "/", path60, path60},
		{"/", "/", slash60, slash60},
		{"/", path60, "/", path60},
		{"/", path58, "/b", path58 + "/b"}, // just 60 octets
		{"/", "/x", path58, "/x" + path58},
		{"/a", path60, "/a", path60},
		{"/a", path59, "/a/", path59 + "/"},
		{"/a", path58, "/a/b", path58 + "/b"},
		{"/a", "/x", "/a" + path58, "/x" + path58},
		{"/a", "/", "/a" + path58, path58},
		{path60, "/", path60, "/"},
		{path60, "/x", path60, "/x"},
		{path58, "/", path58 + "/b", "/b"},
		{path59, path59, path59 + "/", path59 + "/"},
	} {
		if got, e := path.Swap(prefix(c.val), c.with, c.s); got != c.want || e != api.OK {
			t.Errorf("Swap(%q, %q, %q): %q, %d", c.val, c.with, c.s, got, e)
		}
	}
}

func TestSwapOfTooMuch(t *testing.T) {
	for _, c := range []struct{ val, with, s string }{
		{"/a", path59, "/a/b"}, // 61 octets
		{"/a", path58, "/a/bc"},
		{"/a", path60, "/a/"},
		{"/a", path60, "/a/b"},
		{"/a", "/xy", "/a" + path58},
		{"/a", path58, "/a" + path58},
		{"/", path59, "/b"},
		{"/", path60, "/b"},
		{"/", "/x", path59},
		{"/", "/x", path60},
		{"/", "/x", slash60},
		{"/", path60, path60},
		{"/", path60, "//"},
	} {
		if got, e := path.Swap(prefix(c.val), c.with, c.s); got != "" || e != api.ErrLarge {
			t.Errorf("Swap(%q, %q, %q): %q, %d", c.val, c.with, c.s, got, e)
		}
	}
}

func TestSwapOfWrongInputs(t *testing.T) {
	type args struct {
		p       api.Path
		with, s string
	}
	wrong := []args{
		{exact("/a"), "/x", "/a"},
		{exact("/"), "/x", "/"},
		{exact("/a/"), "/x", "/a/"},
		{exact("/a"), "/x", "/a/b"},
		{prefix("/a"), "/x", "/ab"},
		{prefix("/a"), "/x", "/"},
		{prefix("/a"), "/x", "/b"},
		{prefix("/a/b"), "/x", "/a"},
		{prefix(path60), "/x", path59},
		{prefix("/a/"), "/x", "/a/"},
		{prefix("/a/"), "/x", "/a/b"},
		// ErrLarge would come, too, but is named behind ErrArg.
		{exact("/a"), path60, "/a/b"},
		{prefix("/b"), path60, "/a/b"},
		{prefix("/a"), path59 + "/", "/a/b"},
		{prefix("/a"), path61, "/a/b"},
		{prefix("/"), "/x", path61},
	}
	for _, kind := range noKinds {
		wrong = append(wrong, args{api.Path{Kind: kind, Val: "/a"}, "/x", "/a"}, args{api.Path{Kind: kind, Val: "/"}, path60, "/b"})
	}
	for _, s := range slashed {
		wrong = append(wrong, args{prefix("/a"), s, "/a"}, args{prefix("/"), s, "/b"}, args{prefix(s), "/x", s}, args{exact(s), "/x", s})
	}
	for _, s := range noPaths {
		wrong = append(wrong, args{prefix("/a"), s, "/a"}, args{prefix("/a"), "/x", s}, args{prefix("/"), "/x", s}, args{prefix("/"), "/", s}, args{prefix(s), "/x", "/a"}, args{prefix(s), "/x", s}, args{prefix("/a"), "/x", "/a/" + s + "\xff"})
	}
	for _, c := range wrong {
		if got, e := path.Swap(c.p, c.with, c.s); got != "" || e != api.ErrArg {
			t.Errorf("Swap(%d %.80q, %.80q, %.80q): %.80q, %d", c.p.Kind, c.p.Val, c.with, c.s, got, e)
		}
	}
}

// checkSwap holds Swap against its words, and against what follows from them.
func checkSwap(t *testing.T, p api.Path, with, s string) {
	t.Helper()
	got, e := path.Swap(p, with, s)
	if want, wantErr := swapByWords(p, with, s); got != want || e != wantErr {
		t.Fatalf("Swap(%v, %q, %q): %q, %d, want %q, %d", p, with, s, got, e, want, wantErr)
	}
	if e != api.OK {
		return
	}
	if !strings.HasPrefix(got, with) || !path.Holds(prefix(with), got) {
		t.Fatalf("Swap(%v, %q, %q): %q, which is not below %q", p, with, s, got, with)
	}
	if with == "/" || p.Val == "/" {
		return
	}
	if back, e := path.Swap(prefix(with), p.Val, got); back != s || e != api.OK {
		t.Fatalf("Swap(%v, %q, %q): %q, and back: %q, %d", p, with, s, got, back, e)
	}
}

func TestSwapAndBack(t *testing.T) {
	texts := append(shortTexts("/a", 5), "/?", "/\xff", "/b", "/b/a")
	for _, val := range texts {
		for _, p := range pathsOf(val) {
			for _, with := range texts {
				for _, s := range texts {
					checkSwap(t, p, with, s)
				}
			}
		}
	}
}

func TestSwapLengths(t *testing.T) {
	for n := 2; n <= 61; n++ {
		for m := 2; m <= 61; m++ {
			begin, rest := "/"+strings.Repeat("b", n-1), "/"+strings.Repeat("c", m-1)
			checkSwap(t, prefix("/"), begin, rest)
			checkSwap(t, prefix("/a"), begin, "/a"+rest)
			checkSwap(t, prefix(begin), "/a", begin+rest)
			checkSwap(t, prefix(begin), "/", begin+rest)
			checkSwap(t, prefix(begin), rest, begin)
			checkSwap(t, prefix(begin), rest, begin+"/")
		}
	}
}

// FuzzPath holds the calls against the words at whatever texts and kinds: none panics, and what they answer fits together.
func FuzzPath(f *testing.F) {
	f.Add(2, "/a", 1, "/x", "/a/b")
	f.Add(2, "/", 2, "/a/", "/")
	f.Add(0, "\xff", -1, "", "/\u00e9?")
	f.Add(2, path58, 3, path60, path58+"/a")
	f.Fuzz(func(t *testing.T, kind int, val string, otherKind int, other, s string) {
		p, q := api.Path{Kind: kind, Val: val}, api.Path{Kind: otherKind, Val: other}
		for _, text := range []string{val, other, s, "/" + s} {
			if path.Is(text) != isByWords(text) {
				t.Errorf("Is(%q) is %t", text, path.Is(text))
			}
		}
		if path.May(p) != mayByWords(p) {
			t.Errorf("May(%v) is %t", p, path.May(p))
		}
		if path.Order(p, q) != orderByWords(p, q) {
			t.Errorf("Order(%v, %v): %d", p, q, path.Order(p, q))
		}
		for _, text := range []string{s, val, val + s, val + "/" + s} {
			if path.Holds(p, text) != holdsByWords(p, text) {
				t.Errorf("Holds(%v, %q) is %t", p, text, path.Holds(p, text))
			}
			checkSwap(t, p, other, text)
			checkSwap(t, prefix(val), other, text)
			checkSwap(t, prefix("/"), other, text)
		}
	})
}
