package host_test

import (
	"slices"
	"strings"
	"testing"

	"toll/api"
	"toll/dns"
	"toll/host"
)

// Texts of the edges that the limits name.
var (
	label20 = strings.Repeat("a", api.MaxLabel)
	label21 = strings.Repeat("a", api.MaxLabel+1)
	name58  = strings.Repeat("abcde.", 9) + "abcd"
	name59  = strings.Repeat("abcde.", 9) + "abcde"
	name60  = strings.Repeat("abcde.", 9) + "abcdef"
	name61  = strings.Repeat("abcde.", 9) + "abcdefg"
	endless = strings.Repeat("a.", 1<<20) + "a"
)

var patterns = []string{
	"", "a", "a.b", "x.a.b", "0", "a-1.0x", label20, name58, name60,
	"*.a", "*.b", "*.a.b", "*.x.a.b", "*.0", "*.a-1.0x", "*." + label20, "*." + name58,
}

var noPatterns = []string{
	"*", "*.", "*..", "**", "**.a", "*a", "*a.b", "a*", "a*.b", "a.*", "a.*.b", "*.*", "*.*.a", "*.a.*", ".*.a", "*..a", "*.a.", "*.a..b", " *.a", "*. a", "* .a",
	".", "..", "a.", ".a", "a..b", name61, "*." + name59, "*." + name60, endless, "*." + endless, label21, "*." + label21,
	"-a", "a-", "*.-a", "*.a-", "A", "a.B", "*.A", "*.a.B", "a:80", "*.a:80", "a/b", "a b", "a\n", "a\x00", "?", "?.a",
	"é", "*.é", "\uff0a.a", "*\u3002a", "\xff", "*.\xff", "\xff.a", "a\x80", "*.\xed\xa0\x80",
}

var noNames = []string{
	"", ".", "a.", ".a", "a..b", "*", "*.", "*.a", "*.a.b", "A", "a.B", "a:80", "-a", "a-", "a b", "a_b",
	label21, "a." + label21, name61, endless, "é", "\xff", "a.\xff", "\x80.b", "a\x00.b",
}

func TestEdges(t *testing.T) {
	if len("*."+name58) != api.MaxName || len("*."+name59) != api.MaxName+1 || len(name60) != api.MaxName {
		t.Error("the edges' texts have other sizes than they should")
	}
}

func TestMay(t *testing.T) {
	for _, p := range patterns {
		if !host.May(p) {
			t.Errorf("May(%q) is false", p)
		}
	}
	for _, p := range noPatterns {
		if host.May(p) {
			t.Errorf("May(%.80q) is true", p)
		}
	}
}

func TestMayOctets(t *testing.T) {
	const letters = "abcdefghijklmnopqrstuvwxyz0123456789"
	for c := range 256 {
		s := string([]byte{byte(c)})
		want := strings.Contains(letters, s)
		for _, p := range []string{s, "*." + s, s + ".a", "*." + s + ".a", "a." + s} {
			if got := host.May(p); got != (want || p == "*.a") {
				t.Errorf("May(%q) is %t", p, got)
			}
		}
	}
}

func TestMayLengths(t *testing.T) {
	for n := 1; n < 200; n += 2 {
		name := strings.Repeat("a.", n/2) + "a"
		if got := host.May(name); got != (n <= 60) {
			t.Errorf("May of a name of %d octets is %t", n, got)
		}
		if got := host.May("*." + name); got != (n+2 <= 60) {
			t.Errorf("May of *. and a name of %d octets is %t", n, got)
		}
		if got := host.May("*.b" + name); got != (n+3 <= 60) {
			t.Errorf("May of *. and a name of %d octets is %t", n+1, got)
		}
	}
}

func TestHolds(t *testing.T) {
	for _, c := range []struct {
		p, host string
		want    bool
	}{
		{"", "a", true},
		{"", "x.a.b", true},
		{"", name60, true},
		{"a.b", "a.b", true},
		{"a.b", "a.c", false},
		{"a.b", "b", false},
		{"a.b", "x.a.b", false},
		{"a.b", "a.b.c", false},
		{"a.b", "xa.b", false},
		{name60, name60, true},
		{"*.b", "a.b", true},
		{"*.b", "x.a.b", true},
		{"*.b", "b.b", true},
		{"*.b", "b", false}, // the chapter's example 2
		{"*.b", "ab", false},
		{"*.b", "b.a", false},
		{"*.b", "a.b.c", false},
		{"*.a.b", "x.a.b", true},
		{"*.a.b", "y.x.a.b", true},
		{"*.a.b", "a.b", false},
		{"*.a.b", "xa.b", false},
		{"*.a.b", "b", false},
		{"*.a.b", "x.b", false},
		{"*." + name58, "a." + name58, true}, // the longest pattern stands for hosts, too
		{"*." + name58, "ab." + name58, false},
		{"*." + name58, name58, false},
		{"*." + label20, label20 + "." + label20, true},
	} {
		if got := host.Holds(c.p, c.host); got != c.want {
			t.Errorf("Holds(%q, %q) is %t", c.p, c.host, got)
		}
	}
}

func TestHoldsOfWrongTexts(t *testing.T) {
	for _, p := range noPatterns {
		for _, h := range append(slices.Clone(patterns), p, "a", "x.a.b", "x."+name59, "x."+strings.TrimPrefix(p, "*.")) {
			if host.Holds(p, h) {
				t.Errorf("Holds(%.80q, %.80q) is true", p, h)
			}
		}
	}
	for _, h := range noNames {
		for _, p := range append(slices.Clone(patterns), h, "*."+h, strings.TrimPrefix(h, "a.")) {
			if host.Holds(p, h) {
				t.Errorf("Holds(%.80q, %.80q) is true", p, h)
			}
		}
	}
}

func TestMeet(t *testing.T) {
	for _, c := range []struct {
		a, b, want string
		is         bool
	}{
		{"*.a.b", "*.b", "*.a.b", true}, // the chapter's example 1
		{"x.a.b", "*.b", "x.a.b", true},
		{"*.a", "*.b", "", false},
		{"", "", "", true},
		{"", "a.b", "a.b", true},
		{"", "*.b", "*.b", true},
		{"a.b", "a.b", "a.b", true},
		{"a.b", "a.c", "", false},
		{"a.b", "x.a.b", "", false},
		{"a.b", "b", "", false},
		{"*.b", "*.b", "*.b", true},
		{"*.b", "*.x.a.b", "*.x.a.b", true},
		{"*.b", "*.ab", "", false},
		{"*.a.b", "*.x.b", "", false},
		{"*.a.b", "*.a", "", false},
		{"*.b", "a.b", "a.b", true},
		{"*.b", "b", "", false},
		{"*.b", "ab", "", false},
		{"*.a.b", "a.b", "", false},
		{"*.a.b", "b", "", false},
		{"*.a.b", "xa.b", "", false},
		{"*." + name58, "*.abcd", "*." + name58, true},
		{"*." + name58, "a." + name58, "a." + name58, true},
		{"*.abcdef", name60, name60, true},
		{"", "*." + name58, "*." + name58, true},
	} {
		for range 2 {
			if got, is := host.Meet(c.a, c.b); got != c.want || is != c.is {
				t.Errorf("Meet(%q, %q): %q, %t", c.a, c.b, got, is)
			}
			c.a, c.b = c.b, c.a
		}
	}
}

func TestMeetOfNoPattern(t *testing.T) {
	for _, p := range noPatterns {
		for _, q := range append(slices.Clone(patterns), p, "*."+p, "x."+p, "*") {
			for range 2 {
				if got, is := host.Meet(p, q); got != "" || is {
					t.Errorf("Meet(%.80q, %.80q): %.80q, %t", p, q, got, is)
				}
				p, q = q, p
			}
		}
	}
}

// fewNames is all names of at most depth labels of these ones.
func fewNames(labels []string, depth int) []string {
	out := slices.Clone(labels)
	last := out
	for range depth - 1 {
		var next []string
		for _, above := range last {
			for _, l := range labels {
				next = append(next, l+"."+above)
			}
		}
		out = append(out, next...)
		last = next
	}
	return out
}

// patternsOf is these names, *. and each of them, and the empty pattern.
func patternsOf(names []string) []string {
	out := append([]string{""}, names...)
	for _, n := range names {
		out = append(out, "*."+n)
	}
	return out
}

// holdsByLabels is Holds as its words have it, by whole labels.
func holdsByLabels(p, h string) bool {
	labels := dns.Labels(h)
	if len(labels) == 0 || len(p) > api.MaxName {
		return false
	}
	if p == "" {
		return true
	}
	if p[0] != '*' {
		return slices.Equal(dns.Labels(p), labels)
	}
	if !strings.HasPrefix(p, "*.") {
		return false
	}
	above := dns.Labels(p[2:])
	return len(above) > 0 && len(labels) > len(above) && slices.Equal(labels[len(labels)-len(above):], above)
}

func TestMeetHoldsForWhatBothHoldFor(t *testing.T) {
	all := patternsOf(fewNames([]string{"a", "b", "ab"}, 2))
	// One label deeper than the names of the patterns, so that each pattern has hosts.
	hosts := fewNames([]string{"a", "b", "ab"}, 4)
	for _, p := range all {
		for _, h := range hosts {
			if got := host.Holds(p, h); got != holdsByLabels(p, h) {
				t.Fatalf("Holds(%q, %q) is %t", p, h, got)
			}
		}
	}
	for _, a := range all {
		for _, b := range all {
			met, is := host.Meet(a, b)
			if !is && met != "" || !host.May(met) {
				t.Fatalf("Meet(%q, %q): %q, %t", a, b, met, is)
			}
			common := false
			for _, h := range hosts {
				both := holdsByLabels(a, h) && holdsByLabels(b, h)
				common = common || both
				if is && holdsByLabels(met, h) != both {
					t.Fatalf("Meet(%q, %q): %q, and this is wrong for %q", a, b, met, h)
				}
			}
			if is != common {
				t.Fatalf("Meet(%q, %q) is %t, a host in common: %t", a, b, is, common)
			}
		}
	}
}

// meetAll is what patterns meet in, one behind the other.
func meetAll(l ...string) (string, bool) {
	met := ""
	for _, p := range l {
		var is bool
		if met, is = host.Meet(met, p); !is {
			return "", false
		}
	}
	return met, true
}

func TestMeetInWhateverOrder(t *testing.T) {
	all := append(patternsOf(fewNames([]string{"a", "b"}, 3)), "*", "*.", "A", "*.\xff")
	for _, a := range all {
		for _, b := range all {
			one, is := host.Meet(a, b)
			if other, isToo := host.Meet(b, a); one != other || is != isToo {
				t.Fatalf("Meet(%q, %q): %q, %t; turned round: %q, %t", a, b, one, is, other, isToo)
			}
			for _, c := range all {
				left, isLeft := meetAll(a, b, c)
				inner, isRight := host.Meet(b, c)
				right := ""
				if isRight {
					right, isRight = host.Meet(a, inner)
				}
				if left != right || isLeft != isRight {
					t.Fatalf("%q, %q and %q meet in %q, %t, or in %q, %t", a, b, c, left, isLeft, right, isRight)
				}
			}
		}
	}
}

func TestOrder(t *testing.T) {
	// Each one comes ahead of all behind it. Names, and what is neither one nor empty: octet by octet.
	sorted := []string{
		"*", "**.a", "*a", "+", ".", "A", "a", "a.*", endless, "a.b", "a.b.c", "ab", "b", "b.b", "x.a.b", "z", "\u00e9", "\xff", "\xff\xff",
	}
	// With *.: the longer one first, then octet by octet.
	sorted = append(sorted,
		"*."+endless, "*."+name58, "*.A.a.b", "*.x.a.b", "*.y.a.b", "*.a.b", "*.c.b", "*.\xff.b", "*.ab", "*..", "*.a", "*.b", "*.\xff", "*.", "")
	for i, a := range sorted {
		for k, b := range sorted {
			want := 0
			if i < k {
				want = -1
			} else if i > k {
				want = 1
			}
			if got := host.Order(a, b); got != want {
				t.Errorf("Order(%.40q, %.40q): %d, want %d", a, b, got, want)
			}
		}
	}
}

// moreExact is the words' own telling of which pattern is more exact, of whatever texts.
func moreExact(a, b string) bool {
	isWild := func(s string) bool { return len(s) >= 2 && s[0] == '*' && s[1] == '.' }
	isName := func(s string) bool { return s != "" && !isWild(s) }
	switch {
	case isName(a) && !isName(b):
		return true
	case isWild(a) && isWild(b) && len(a) > len(b):
		return true
	}
	return a != "" && b == ""
}

func orderByWords(a, b string) int {
	switch {
	case moreExact(a, b):
		return -1
	case moreExact(b, a):
		return 1
	case a < b:
		return -1
	case a > b:
		return 1
	}
	return 0
}

// shortTexts is all texts of at most n of these octets.
func shortTexts(octets string, n int) []string {
	out := []string{""}
	last := out
	for range n {
		var next []string
		for _, s := range last {
			for _, c := range []byte(octets) {
				next = append(next, s+string([]byte{c}))
			}
		}
		out = append(out, next...)
		last = next
	}
	return out
}

func TestOrderIsAnOrder(t *testing.T) {
	for _, a := range shortTexts("*.aB\xff", 4) {
		for _, b := range shortTexts("*.aB\xff", 4) {
			if got := host.Order(a, b); got != orderByWords(a, b) {
				t.Fatalf("Order(%q, %q): %d, want %d", a, b, got, orderByWords(a, b))
			}
		}
	}
	few := append(shortTexts("*.a", 3), "*.aa", "*.ab", "*.b.a", "b", "\xff", "*.\xff")
	for _, a := range few {
		for _, b := range few {
			if host.Order(a, b) != -host.Order(b, a) || (host.Order(a, b) == 0) != (a == b) {
				t.Fatalf("Order(%q, %q): %d, turned round: %d", a, b, host.Order(a, b), host.Order(b, a))
			}
			for _, c := range few {
				if host.Order(a, b) <= 0 && host.Order(b, c) <= 0 && host.Order(a, c) > 0 {
					t.Fatalf("Order does not go on from %q to %q to %q", a, b, c)
				}
			}
		}
	}
}

func TestBest(t *testing.T) {
	l := []string{"", "*.b", "*.a.b", "x.a.b", "*.x.a.b", "*.c.b", "b"}
	for _, c := range []struct {
		l    []string
		host string
		want int
		is   bool
	}{
		{l, "x.a.b", 3, true},
		{l, "y.a.b", 2, true},
		{l, "y.x.a.b", 4, true},
		{l, "a.b", 1, true},
		{l, "b", 6, true},
		{l, "z", 0, true},
		{l[1:], "z", 0, false},
		{l[2:], "a.b", 0, false},
		{nil, "a", 0, false},
		{[]string{}, "a", 0, false},
		{[]string{""}, "a", 0, true},
		{[]string{"a", "a"}, "a", 0, true}, // equal patterns: the first one
		{[]string{"b", "*.a", "", "*.a", ""}, "x.a", 1, true},
		{[]string{"b", "", "a", "*.b", "a", "a"}, "a", 2, true},
		{[]string{"*.b", "b", "*.a.b"}, "b", 1, true},
		{[]string{"*.b", "*.a"}, "b", 0, false},
		{[]string{"*", "A", "*.", "a.*", "*.*.a", "\xff", "x.a.", "*.a", "*a"}, "x.a", 7, true}, // what is no pattern stands for none
		{[]string{"*", "A", "*.", "\xff"}, "a", 0, false},
		{[]string{"", "*." + name58}, "a." + name58, 1, true},
		{[]string{"", "*." + name59}, name60, 0, true},
		{[]string{"b", "", name60}, name60, 2, true},
	} {
		if got, is := host.Best(c.l, c.host); got != c.want || is != c.is {
			t.Errorf("Best(%q, %q): %d, %t", c.l, c.host, got, is)
		}
	}
}

func TestBestOfNoHost(t *testing.T) {
	for _, h := range noNames {
		if got, is := host.Best([]string{"", h, "*.a", "a"}, h); got != 0 || is {
			t.Errorf("Best for %.80q: %d, %t", h, got, is)
		}
	}
}

func TestBestLeavesTheListAsItIs(t *testing.T) {
	l := []string{"", "*.b", "a.b", "*"}
	kept := slices.Clone(l)
	host.Best(l, "a.b")
	if !slices.Equal(l, kept) {
		t.Errorf("Best made %q of %q", l, kept)
	}
}

func TestBestHoldsAndNoneIsMoreExact(t *testing.T) {
	all := append(patternsOf(fewNames([]string{"a", "b"}, 2)), "*", "*.", "A")
	hosts := append(fewNames([]string{"a", "b"}, 3), "A", "")
	for _, p := range all {
		for _, q := range all {
			for _, r := range []string{"", "*.a", "a.b", "*"} {
				for _, h := range hosts {
					l := []string{p, q, r}
					got, is := host.Best(l, h)
					want, wantIs := bestByWords(l, h)
					if got != want || is != wantIs {
						t.Fatalf("Best(%q, %q): %d, %t, want %d, %t", l, h, got, is, want, wantIs)
					}
				}
			}
		}
	}
}

// bestByWords is the first one that holds and that none is ahead of.
func bestByWords(l []string, h string) (int, bool) {
	for i, p := range l {
		ahead := func(q string) bool { return holdsByLabels(q, h) && orderByWords(q, p) < 0 }
		if holdsByLabels(p, h) && !slices.ContainsFunc(l, ahead) {
			return i, true
		}
	}
	return 0, false
}

func TestOf(t *testing.T) {
	for s, want := range map[string]string{
		"Web.Test.:8080":        "web.test", // the chapter's example 3
		"a":                     "a",
		"A":                     "a",
		"web.TEST":              "web.test",
		"a.b.":                  "a.b",
		"a:8":                   "a",
		"a:80":                  "a",
		"a:443":                 "a",
		"a:8080":                "a",
		"a:65535":               "a",
		"a:99999":               "a", // digits are asked for, no more
		"a:00000":               "a",
		"a.:0":                  "a",
		"0.1":                   "0.1",
		"10.0.0.1:80":           "10.0.0.1",
		"a-1.0X.:1":             "a-1.0x",
		name60:                  name60,
		name60 + ".":            name60,
		name60 + ":65535":       name60,
		name60 + ".:65535":      name60,
		strings.ToUpper(name60): name60,
	} {
		if got, e := host.Of(s); got != want || e != api.OK {
			t.Errorf("Of(%q): %q, %d", s, got, e)
		}
	}
}

func TestOfNoHost(t *testing.T) {
	texts := []string{
		"a:", "a.:", "a:123456", "a:0000080", "a::80", "a:80:80", "a:80:", "a:b", "a:8b", "a:b8", "a:8.", "a:80.", "a:-1", "a:+1", "a: 80", "a:80 ", " a:80", "a :80",
		":80", ".:80", ":", "..", "a..", "a..:80", "..:80", "a.b..", ".a", ".a:80", "a:80..", "80:", "a.:80.", "[::1]:80", "[a]:80",
		"*", "*.", "*.a", "*.a:80", "a.*", "http://a", "a/b", "a@b", "a,b", "a_b", "-a:80", "a-:80", "a-.:80",
		"a:\uff18\uff10", "a:8\xff", "a:\xff", "\xff:80", "\xffA", "\u212a", "\u212a.a:80", "a\uff1a80", "a\u3002b", "É", "a\x00:80", "a\n",
		"a:" + strings.Repeat("0", 1<<20), strings.Repeat("a", 21) + ":80", name61 + ":80", name61 + ".", name60 + "..", endless + ".:80", strings.Repeat(":80", 1<<16), strings.Repeat(".", 1<<16),
	}
	for _, h := range noNames {
		if h != "A" && h != "a.B" && h != "a:80" && h != "a." {
			texts = append(texts, h, h+":80")
		}
	}
	for _, s := range texts {
		if got, e := host.Of(s); got != "" || e != api.ErrForm {
			t.Errorf("Of(%.80q): %.80q, %d", s, got, e)
		}
	}
}

// ofByWords is Of as its words have it: each count of digits is tried by itself.
func ofByWords(s string) (string, api.Errno) {
	s = dns.Fold(s)
	for digits := 1; digits <= 5; digits++ {
		at := len(s) - digits - 1
		if at >= 0 && s[at] == ':' && strings.Trim(s[at+1:], "0123456789") == "" {
			s = s[:at]
			break
		}
	}
	if s != "" && s[len(s)-1] == '.' {
		s = s[:len(s)-1]
	}
	if !dns.Name(s) {
		return "", api.ErrForm
	}
	return s, api.OK
}

func TestOfShortTexts(t *testing.T) {
	for _, s := range shortTexts("aB.:0-", 6) {
		got, e := host.Of(s)
		if want, wantErr := ofByWords(s); got != want || e != wantErr {
			t.Fatalf("Of(%q): %q, %d, want %q, %d", s, got, e, want, wantErr)
		}
	}
	for _, tail := range shortTexts("09:", 8) {
		got, e := host.Of("a" + tail)
		if want, wantErr := ofByWords("a" + tail); got != want || e != wantErr {
			t.Fatalf("Of(%q): %q, %d, want %q, %d", "a"+tail, got, e, want, wantErr)
		}
	}
}

func TestOfOctets(t *testing.T) {
	for c := range 256 {
		s := string([]byte{byte(c)})
		for _, text := range []string{s, "a" + s, s + "a", "a:" + s, "a:8" + s, "a:" + s + "8", "a" + s + "80", "a.b" + s} {
			got, e := host.Of(text)
			if want, wantErr := ofByWords(text); got != want || e != wantErr {
				t.Errorf("Of(%q): %q, %d, want %q, %d", text, got, e, want, wantErr)
			}
		}
	}
}

// FuzzHost holds the calls against the words at whatever texts: none panics, and what they answer fits together.
func FuzzHost(f *testing.F) {
	f.Add("*.a.b", "x.a.b", "*.b")
	f.Add("Web.Test.:8080", "", "*")
	f.Add("\xff", "*.", "a")
	f.Fuzz(func(t *testing.T, a, b, c string) {
		if host.Holds(a, b) != (host.May(a) && holdsByLabels(a, b)) {
			t.Errorf("Holds(%q, %q) is %t", a, b, host.Holds(a, b))
		}
		met, is := host.Meet(a, b)
		if other, isToo := host.Meet(b, a); met != other || is != isToo {
			t.Errorf("Meet(%q, %q): %q, %t; turned round: %q, %t", a, b, met, is, other, isToo)
		}
		if both := host.Holds(a, c) && host.Holds(b, c); both != (is && host.Holds(met, c)) {
			t.Errorf("Meet(%q, %q): %q, %t, and both hold for %q: %t", a, b, met, is, c, both)
		}
		if host.Order(a, b) != orderByWords(a, b) {
			t.Errorf("Order(%q, %q): %d", a, b, host.Order(a, b))
		}
		got, e := host.Of(a)
		if want, wantErr := ofByWords(a); got != want || e != wantErr {
			t.Errorf("Of(%q): %q, %d, want %q, %d", a, got, e, want, wantErr)
		}
		l := []string{a, b, "*.b", ""}
		place, found := host.Best(l, c)
		if want, wantFound := bestByWords(l, c); place != want || found != wantFound {
			t.Errorf("Best(%q, %q): %d, %t", l, c, place, found)
		}
	})
}
