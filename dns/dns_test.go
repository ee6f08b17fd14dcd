package dns_test

import (
	"fmt"
	"slices"
	"strings"
	"testing"

	"toll/api"
	"toll/dns"
)

// Texts of the edges that the limits name.
var (
	label20 = strings.Repeat("a", api.MaxLabel)
	label21 = strings.Repeat("a", api.MaxLabel+1)
	name60  = strings.Repeat("abcde.", 9) + "abcdef"
	name61  = strings.Repeat("abcde.", 9) + "abcdefg"
	endless = strings.Repeat("a.", 1<<20) + "a"
)

var labels = []string{"a", "z", "0", "9", "a-1", "0x", "a--b", "1-2-3", label20, "a" + strings.Repeat("-", 18) + "b"}

var noLabels = []string{
	"", "-", "--", "-a", "a-", "-a-", label21, strings.Repeat("a", 1<<20),
	"A", "aB", "Ba", "a.b", ".", "a.", ".a", "a/b", "a b", " a", "a\n", "a_b", "*", "a\x00",
	"`", "{", "@", "[", ":", ",", "é", "\uff41", "\u212a", "\u0131", "\xff", "a\x80b", "\xc3", "a\xed\xa0\x80",
}

var names = []string{"a", "a.b", "a.b.c", "a-1.0x", "0.1.2.3", "web.shop.test", label20, label20 + "." + label20, name60, strings.Repeat("a.", 29) + "bc"}

var noNames = []string{
	"", ".", "..", "a.", ".a", ".a.", "a..b", "a...b", "a.b.", ".a.b", name61, name60 + ".", "." + name60[1:], endless,
	label21, "a." + label21, label21 + ".a", "a." + label21 + ".b",
	"-a", "a-", "a.-b", "a-.b", "a.b-", "a.-.b", "-.a",
	"A", "a.B", "A.b", "a b", "a. b", "a/b", "*.a", "a.*", "a:80", "é.a", "a.é", "a\u3002b", "\xff", "a.\xff", "\x80.a", "a\x00.b",
}

func TestLabel(t *testing.T) {
	for _, s := range labels {
		if !dns.Label(s) {
			t.Errorf("Label(%q) is false", s)
		}
	}
	for _, s := range noLabels {
		if dns.Label(s) {
			t.Errorf("Label(%.80q) is true", s)
		}
	}
}

func TestLabelOctets(t *testing.T) {
	const letters = "abcdefghijklmnopqrstuvwxyz0123456789"
	for c := range 256 {
		s := string([]byte{byte(c)})
		letter := strings.Contains(letters, s)
		for _, text := range []string{s, s + "a", "a" + s} {
			if dns.Label(text) != letter {
				t.Errorf("Label(%q) is %t", text, !letter)
			}
		}
		if inner := "a" + s + "a"; dns.Label(inner) != (letter || s == "-") {
			t.Errorf("Label(%q) is %t", inner, dns.Label(inner))
		}
	}
}

func TestLabelLengths(t *testing.T) {
	for n := range 100 {
		if s := strings.Repeat("x", n); dns.Label(s) != (n >= 1 && n <= 20) {
			t.Errorf("Label of %d octets is %t", n, dns.Label(s))
		}
	}
}

func TestName(t *testing.T) {
	for _, s := range names {
		if !dns.Name(s) {
			t.Errorf("Name(%q) is false", s)
		}
	}
	for _, s := range noNames {
		if dns.Name(s) {
			t.Errorf("Name(%.80q) is true", s)
		}
	}
}

func TestNameLengths(t *testing.T) {
	for n := 1; n < 200; n++ {
		s := strings.Repeat("a.", n/2+1)[:n]
		want := n <= 60 && n%2 == 1
		if dns.Name(s) != want {
			t.Errorf("Name(%q) of %d octets is %t", s, n, !want)
		}
	}
	if len(name60) != 60 || len(name61) != 61 {
		t.Errorf("the edges' names have %d and %d octets", len(name60), len(name61))
	}
}

func TestEachLabelIsAName(t *testing.T) {
	for _, s := range labels {
		if !dns.Name(s) {
			t.Errorf("Name(%q) is false of a label", s)
		}
	}
}

func TestLabels(t *testing.T) {
	for s, want := range map[string][]string{
		"a":             {"a"},
		"a.b-c":         {"a", "b-c"}, // the chapter's example 1
		"web.shop.test": {"web", "shop", "test"},
		"b.a.b":         {"b", "a", "b"},
		label20:         {label20},
		name60:          append(slices.Repeat([]string{"abcde"}, 9), "abcdef"),
	} {
		if got := dns.Labels(s); !slices.Equal(got, want) {
			t.Errorf("Labels(%q): %q, want %q", s, got, want)
		}
	}
	for _, s := range noNames {
		if got := dns.Labels(s); len(got) != 0 {
			t.Errorf("Labels(%.80q): %.80q, want none", s, got)
		}
	}
}

func TestLabelsJoined(t *testing.T) {
	for _, s := range names {
		got := dns.Labels(s)
		if strings.Join(got, ".") != s {
			t.Errorf("Labels(%q): %q", s, got)
		}
		for _, l := range got {
			if !dns.Label(l) {
				t.Errorf("Labels(%q) has %q, which is no label", s, l)
			}
		}
	}
}

func TestLabelsAreNew(t *testing.T) {
	first := dns.Labels("a.b")
	first[0] = "x"
	if got := dns.Labels("a.b"); !slices.Equal(got, []string{"a", "b"}) {
		t.Errorf("Labels after an answer was changed: %q", got)
	}
}

func TestFold(t *testing.T) {
	for s, want := range map[string]string{
		"":                      "",
		"a":                     "a",
		"A":                     "a",
		"AZaz09-.":              "azaz09-.",
		"@[`{":                  "@[`{",
		"WeB.Shop.TEST:80":      "web.shop.test:80",
		"aBZ[@é":                "abz[@é",
		"ÉÄΣ\u0130":             "ÉÄΣ\u0130",      // letters, but none of A to Z
		"\u212a":                "\u212a",         // the sign of kelvin, that the library takes for a k
		"\xffA\x80":             "\xffa\x80",      // no UTF-8: the octets stay
		"\xc3A\xed\xa0Z":        "\xc3a\xed\xa0z", // nor is this
		"A\x00\r\nB":            "a\x00\r\nb",     // octets that are not to be seen
		endless + "B":           endless + "b",    // no name: no limit holds
		strings.Repeat("Q", 61): strings.Repeat("q", 61),
	} {
		if got := dns.Fold(s); got != want {
			t.Errorf("Fold(%.80q): %.80q, want %.80q", s, got, want)
		}
	}
}

func TestFoldOctets(t *testing.T) {
	const large, small = "ABCDEFGHIJKLMNOPQRSTUVWXYZ", "abcdefghijklmnopqrstuvwxyz"
	for c := range 256 {
		want := byte(c)
		if i := strings.IndexByte(large, byte(c)); i >= 0 {
			want = small[i]
		}
		s := string([]byte{'x', byte(c), 'Y'})
		if got := dns.Fold(s); got != string([]byte{'x', want, 'y'}) {
			t.Errorf("Fold(%q): %q", s, got)
		}
		if got := dns.Fold(s); dns.Fold(got) != got {
			t.Errorf("Fold(%q) is folded further: %q", got, dns.Fold(got))
		}
	}
}

func TestUnder(t *testing.T) {
	for _, c := range []struct {
		name, above string
		want        bool
	}{
		{"a.b.c", "b.c", true}, // the chapter's example 2
		{"xb.c", "b.c", false},
		{"a.b.c", "c", true},
		{"a.c", "c", true},
		{"a.a", "a", true},
		{"a.b.a.b", "a.b", true},
		{name60, "abcdef", true},
		{name60, name60[6:], true},
		{"a", "a", false},
		{"b.c", "b.c", false},
		{"c", "b.c", false},
		{"b.c", "a.b.c", false},
		{"a.b.c", "a.b", false},
		{"a.b.c", "b", false},
		{"a.b.c", "a.c", false},
		{"a.b.c", ".c", false},
		{"a.b.", "b.", false},
		{"a.", "", false},
		{"a", "", false},
		{"", "a", false},
		{"", "", false},
		{".a", "a", false},
		{"a..b", "b", false},
		{"a.b..c", "c", false},
		{"*.a", "a", false},
		{"-x.a", "a", false},
		{"A.b", "b", false},
		{"a.B", "B", false},
		{"a.B", "b", false},
		{"\xff.a", "a", false},
		{"a.\xff", "\xff", false},
		{label21 + ".a", "a", false},
		{name61, "abcdefg", false},
		{"a." + name60, name60, false}, // above is a name, but what stands ahead of it makes too much
		{endless, "a", false},
		{"a", endless, false},
	} {
		if got := dns.Under(c.name, c.above); got != c.want {
			t.Errorf("Under(%.80q, %.80q) is %t", c.name, c.above, got)
		}
	}
}

// shortTexts is all texts of at most n of these octets.
func shortTexts(octets string, n int) []string {
	out := []string{""}
	last := out
	for range n {
		var next []string
		for _, s := range last {
			for _, c := range []byte(octets) {
				next = append(next, s+string([]byte{c}))
			}
		}
		out = append(out, next...)
		last = next
	}
	return out
}

// underByLabels is Under as its words have it, by whole labels.
func underByLabels(name, above string) bool {
	n, a := dns.Labels(name), dns.Labels(above)
	return len(a) > 0 && len(n) > len(a) && slices.Equal(n[len(n)-len(a):], a)
}

func TestUnderOfShortTexts(t *testing.T) {
	texts := shortTexts("ab.-", 5)
	aboves := shortTexts("ab.-", 3)
	for _, name := range texts {
		for _, above := range aboves {
			if got := dns.Under(name, above); got != underByLabels(name, above) {
				t.Fatalf("Under(%q, %q) is %t", name, above, got)
			}
		}
	}
}

func TestUnderGoesOn(t *testing.T) {
	var all []string
	for _, s := range shortTexts("ab.", 7) {
		if dns.Name(s) {
			all = append(all, s)
		}
	}
	above := map[string][]string{}
	for _, a := range all {
		if dns.Under(a, a) {
			t.Fatalf("%q is under itself", a)
		}
		for _, b := range all {
			if dns.Under(a, b) {
				above[a] = append(above[a], b)
			}
		}
	}
	steps := 0
	for a, l := range above {
		for _, b := range l {
			for _, c := range above[b] {
				steps++
				if !dns.Under(a, c) {
					t.Fatalf("%q is under %q, that under %q, but it is not under this one", a, b, c)
				}
			}
		}
	}
	if steps == 0 {
		t.Error("no name was under one that is under another")
	}
}

func TestKey(t *testing.T) {
	for _, c := range []struct{ space, name, want string }{
		{"", "a", "/a"}, // the chapter's example 3
		{"web", "a", "web/a"},
		{"web", "a.b", "web/a.b"},
		{"a-1", "0x.b-c", "a-1/0x.b-c"},
		{label20, name60, label20 + "/" + name60},
		{"", name60, "/" + name60},
	} {
		if got, e := dns.Key(c.space, c.name); got != c.want || e != api.OK {
			t.Errorf("Key(%q, %q): %q, %d", c.space, c.name, got, e)
		}
	}
}

func TestKeyOfWrongParts(t *testing.T) {
	for _, space := range noLabels {
		if space == "" {
			continue
		}
		if got, e := dns.Key(space, "a"); got != "" || e != api.ErrArg {
			t.Errorf("Key(%.80q, a): %.80q, %d", space, got, e)
		}
	}
	for _, name := range noNames {
		for _, space := range []string{"", "web", "w.x", label21} {
			if got, e := dns.Key(space, name); got != "" || e != api.ErrArg {
				t.Errorf("Key(%q, %.80q): %.80q, %d", space, name, got, e)
			}
		}
	}
}

func TestCut(t *testing.T) {
	for key, want := range map[string][2]string{
		"/a":                     {"", "a"},
		"web/a":                  {"web", "a"},
		"web/a.b":                {"web", "a.b"},
		"a-1/0x.b-c":             {"a-1", "0x.b-c"},
		label20 + "/" + name60:   {label20, name60},
		"/" + name60:             {"", name60},
		"a/" + label20 + ".test": {"a", label20 + ".test"},
	} {
		space, name, e := dns.Cut(key)
		if space != want[0] || name != want[1] || e != api.OK {
			t.Errorf("Cut(%q): %q, %q, %d", key, space, name, e)
		}
	}
}

func TestCutOfNoKey(t *testing.T) {
	keys := []string{
		"", "/", "//", "a", "a.b", "a/", "/a/", "//a", "a//b", "a/b/", "a/b/c", "/a/b", "a/b/c/d",
		"a\\b", "a b", "w.x/a", " /a", "a /b", "a/ b", "a/b\n", "A/b", "a/B", "\xff/a", "a/\xff", "a\xef\xbc\x8fb",
		endless, endless + "/a", "a/" + endless, strings.Repeat("/", 1<<20),
	}
	for _, s := range noLabels {
		if s != "" {
			keys = append(keys, s+"/a")
		}
	}
	for _, s := range noNames {
		keys = append(keys, "/"+s, "web/"+s)
	}
	for _, key := range keys {
		if space, name, e := dns.Cut(key); space != "" || name != "" || e != api.ErrForm {
			t.Errorf("Cut(%.80q): %.80q, %.80q, %d", key, space, name, e)
		}
	}
}

func TestKeyIsCutIntoItsParts(t *testing.T) {
	made := map[string]string{}
	for _, space := range append([]string{""}, labels...) {
		for _, name := range append(slices.Clone(names), "z", "b.a") {
			key, e := dns.Key(space, name)
			if e != api.OK {
				t.Fatalf("Key(%q, %q): %d", space, name, e)
			}
			s, n, e := dns.Cut(key)
			if s != space || n != name || e != api.OK {
				t.Errorf("Cut(%q): %q, %q, %d", key, s, n, e)
			}
			parts := fmt.Sprintf("%q %q", space, name)
			if other, there := made[key]; there {
				t.Errorf("%s and %s have one key, %q", other, parts, key)
			}
			made[key] = parts
		}
	}
}

func TestWhatIsCutIsMadeAgain(t *testing.T) {
	cut := 0
	for _, key := range shortTexts("aB/.-", 6) {
		space, name, e := dns.Cut(key)
		if e != api.OK {
			continue
		}
		cut++
		if again, e := dns.Key(space, name); again != key || e != api.OK {
			t.Fatalf("Key(%q, %q): %q, %d, want %q", space, name, again, e, key)
		}
	}
	if cut == 0 {
		t.Error("no key was cut")
	}
}

// FuzzDns holds the calls against the words at whatever texts: none panics, and what they answer fits together.
func FuzzDns(f *testing.F) {
	f.Add("a.b.c", "b.c")
	f.Add("web/a.b", "A.Test")
	f.Add("\xff", "")
	f.Fuzz(func(t *testing.T, a, b string) {
		if dns.Label(a) && !dns.Name(a) {
			t.Errorf("label %q is no name", a)
		}
		if dns.Name(a) != (len(dns.Labels(a)) > 0) {
			t.Errorf("Name and Labels differ at %q", a)
		}
		if len(dns.Fold(a)) != len(a) || dns.Name(a) && dns.Fold(a) != a {
			t.Errorf("Fold(%q): %q", a, dns.Fold(a))
		}
		if dns.Under(a, b) != underByLabels(a, b) {
			t.Errorf("Under(%q, %q) is %t", a, b, dns.Under(a, b))
		}
		key, e := dns.Key(a, b)
		space, name, cutErr := dns.Cut(a + "/" + b)
		if (e == api.OK) != (cutErr == api.OK) {
			t.Errorf("Key and Cut differ at %q and %q", a, b)
		}
		if e == api.OK && (key != a+"/"+b || space != a || name != b) {
			t.Errorf("Key(%q, %q): %q, cut into %q and %q", a, b, key, space, name)
		}
	})
}
