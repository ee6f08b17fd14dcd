package query_test

import (
	"fmt"
	"net/url"
	"slices"
	"strings"
	"testing"

	"toll/api"
	"toll/query"
)

// Texts of the edges that the limits name.
var (
	text40  = strings.Repeat("a", api.MaxVal)
	text41  = strings.Repeat("a", api.MaxVal+1)
	raw40   = strings.Repeat("\xff", api.MaxVal)
	raw41   = strings.Repeat("\xff", api.MaxVal+1)
	endless = strings.Repeat("a=b&", 1<<19) + "a=b"
)

func one(name, val string) []api.Pair { return []api.Pair{{Name: name, Val: val}} }

// many is n pairs, no two of them the same.
func many(n int) []api.Pair {
	var out []api.Pair
	for i := range n {
		out = append(out, api.Pair{Name: fmt.Sprint("n", i), Val: fmt.Sprint("v", i)})
	}
	return out
}

// Pairs that may be.
var pairs = [][]api.Pair{
	nil,
	{},
	one("a", "1"),
	one("a", ""),
	{{Name: "a", Val: "1"}, {Name: "b"}},
	{{Name: "b", Val: "2"}, {Name: "a", Val: "1"}, {Name: "b", Val: "2"}, {Name: "b", Val: "1"}},
	one(" ", " "), one("=", "="), one("&", "&"), one("+", "+"), one("%", "%"), one("%41", "%41"), one("\x00", "\x00"), one("é", "\u2028"), one("\xff\xc3", "\xed\xa0\x80"), one("?", "#"),
	one(text40, ""), one(text40, text40), one("a", text40), one(raw40, raw40), one("a", raw40),
	many(2), many(19), many(20),
	slices.Repeat(one("a", ""), 20),
	slices.Repeat(one(raw40, raw40), 20),
}

// Pairs that may not be.
var noPairs = [][]api.Pair{
	{{}},
	one("", "1"), one("", text40), one("", text41),
	one(text41, ""), one(text41, text41), one("a", text41), one(raw41, ""), one("a", raw41), one(text40, raw41),
	one(strings.Repeat("é", 21), ""), one("a", strings.Repeat("é", 21)), // 42 octets, but 21 runes
	one(endless, ""), one("a", endless),
	{{Name: "a"}, {}}, {{}, {Name: "a"}}, {{Name: "a"}, {Val: "b"}, {Name: "c"}},
	{{Name: "a"}, {Name: text41}}, {{Name: "a"}, {Name: "a", Val: text41}},
	many(21), many(22), many(1000),
	slices.Repeat(one("", ""), 20),
	slices.Repeat(one("a", ""), 21),
	append(many(19), api.Pair{}), append(many(19), api.Pair{Name: text41}), append(many(20), api.Pair{}),
}

func TestEdges(t *testing.T) {
	if api.MaxPairs != 20 || api.MaxVal != 40 || len(text40) != 40 || len(text41) != 41 || len(raw40) != 40 || len(raw41) != 41 {
		t.Error("the edges' texts have other sizes than they should")
	}
}

func TestPlain(t *testing.T) {
	const plain = "abcdefghijklmnopqrstuvwxyzABCDEFGHIJKLMNOPQRSTUVWXYZ0123456789-._~"
	for c := range 256 {
		want := strings.IndexByte(plain, byte(c)) >= 0
		if got := query.Plain(byte(c)); got != want {
			t.Errorf("Plain(%q) is %t", byte(c), got)
		}
	}
}

func TestMay(t *testing.T) {
	for _, l := range pairs {
		if !query.May(l) {
			t.Errorf("May(%q) is false", l)
		}
	}
	for _, l := range noPairs {
		if query.May(l) {
			t.Errorf("May(%.80q) is true", fmt.Sprint(l))
		}
	}
}

func TestMayLengths(t *testing.T) {
	for n := range 300 {
		for _, c := range []string{"a", "\xff", " ", "&", "%"} {
			s := strings.Repeat(c, n)
			if got := query.May(one(s, "")); got != (n >= 1 && n <= 40) {
				t.Errorf("May of a name of %d octets is %t", n, got)
			}
			if got := query.May(one("a", s)); got != (n <= 40) {
				t.Errorf("May of a value of %d octets is %t", n, got)
			}
		}
		if got := query.May(many(n)); got != (n <= 20) {
			t.Errorf("May of %d pairs is %t", n, got)
		}
	}
}

func TestMayWrongPlaces(t *testing.T) {
	for n := 1; n <= 20; n++ {
		for i := range n {
			for _, wrong := range []api.Pair{{}, {Name: text41}, {Name: "a", Val: text41}} {
				l := many(n)
				l[i] = wrong
				if query.May(l) {
					t.Errorf("May of %d pairs with a wrong one at %d is true", n, i)
				}
			}
		}
	}
}

func TestText(t *testing.T) {
	for _, c := range []struct {
		l    []api.Pair
		want string
	}{
		{nil, ""},
		{[]api.Pair{}, ""},
		{one("a", "=&"), "a=%3D%26"}, // the chapter's example 3
		{one("a", "1"), "a=1"},
		{one("a", ""), "a="},
		{one("a b", "c d"), "a+b=c+d"},
		{one(" ", " "), "+=+"},
		{one("+", "+"), "%2B=%2B"},
		{one("=", "="), "%3D=%3D"},
		{one("&", "&"), "%26=%26"},
		{one("%41", "%"), "%2541=%25"},
		{one("-._~", "~_.-"), "-._~=~_.-"},
		{one("azAZ09", "/?#"), "azAZ09=%2F%3F%23"},
		{one("\x00\x0a", "\x7f\xff"), "%00%0A=%7F%FF"},
		{one("é", "\u212a"), "%C3%A9=%E2%84%AA"},
		{one("\xc3A", "\xed\xa0\x80"), "%C3A=%ED%A0%80"},
		{[]api.Pair{{Name: "a", Val: "1"}, {Name: "b"}}, "a=1&b="},
		{[]api.Pair{{Name: "b", Val: "2"}, {Name: "a", Val: "1"}, {Name: "b", Val: "2"}}, "b=2&a=1&b=2"},
		{one(text40, text40), text40 + "=" + text40},
		{one(raw40, raw40), strings.Repeat("%FF", 40) + "=" + strings.Repeat("%FF", 40)},
		{slices.Repeat(one("a", ""), 20), strings.Repeat("a=&", 19) + "a="},
	} {
		if got, e := query.Text(c.l); got != c.want || e != api.OK {
			t.Errorf("Text(%q): %q, %d, want %q", c.l, got, e, c.want)
		}
	}
}

func TestTextOctets(t *testing.T) {
	for c := range 256 {
		s := string([]byte{byte(c)})
		want := fmt.Sprintf("%%%02X", c)
		if query.Plain(byte(c)) {
			want = s
		} else if c == ' ' {
			want = "+"
		}
		if got, e := query.Text(one(s, s)); got != want+"="+want || e != api.OK {
			t.Errorf("Text(%q, %q): %q, %d", s, s, got, e)
		}
		if got, e := query.Text(one("a"+s+"b", s+"c")); got != "a"+want+"b="+want+"c" || e != api.OK {
			t.Errorf("Text of %q between others: %q, %d", s, got, e)
		}
	}
}

func TestTextOfWrongPairs(t *testing.T) {
	for _, l := range noPairs {
		if got, e := query.Text(l); got != "" || e != api.ErrArg {
			t.Errorf("Text(%.80q): %.80q, %d", fmt.Sprint(l), got, e)
		}
	}
}

func TestParse(t *testing.T) {
	for s, want := range map[string][]api.Pair{
		"":                               nil,
		"a=1&b":                          {{Name: "a", Val: "1"}, {Name: "b"}}, // the chapter's example 1
		"a=%4a+":                         one("a", "J "),                       // the chapter's example 2
		"a":                              one("a", ""),
		"a=":                             one("a", ""),
		"a==":                            one("a", "="),
		"a=b=c":                          one("a", "b=c"),
		"a==b==":                         one("a", "=b=="),
		"a=1&a=1":                        {{Name: "a", Val: "1"}, {Name: "a", Val: "1"}},
		"b=2&a=1":                        {{Name: "b", Val: "2"}, {Name: "a", Val: "1"}},
		"a&b=&c":                         {{Name: "a"}, {Name: "b"}, {Name: "c"}},
		"+":                              one(" ", ""),
		"+=+":                            one(" ", " "),
		"a+b=c++d":                       one("a b", "c  d"),
		" ":                              one(" ", ""),
		" = ":                            one(" ", " "),
		"%20=%20":                        one(" ", " "),
		"%2b=%2B":                        one("+", "+"),
		"%3D":                            one("=", ""), // = and & that are read from digits cut nothing
		"%3d=%3D":                        one("=", "="),
		"a%3Db=c":                        one("a=b", "c"),
		"a%26b=c%26d":                    one("a&b", "c&d"),
		"%26":                            one("&", ""),
		"%25=%2541":                      one("%", "%41"), // what is read is not read again
		"%2541":                          one("%41", ""),
		"%252b":                          one("%2b", ""),
		"%aF=%Fa":                        one("\xaf", "\xfa"),
		"%AF=%fa":                        one("\xaf", "\xfa"),
		"%00=%ff":                        one("\x00", "\xff"),
		"%61%62=%63":                     one("ab", "c"),
		"%410":                           one("A0", ""),
		"%c3%a9":                         one("é", ""),
		"%C3a":                           one("\xc3a", ""),
		"é=\xff":                         one("é", "\xff"), // octets that would be written otherwise
		"\x00\r\n=\x7f":                  one("\x00\r\n", "\x7f"),
		"?=#":                            one("?", "#"),
		"/a?b;c=d":                       one("/a?b;c", "d"),
		text40:                           one(text40, ""),
		text40 + "=" + text40:            one(text40, text40),
		"a=" + text40:                    one("a", text40),
		strings.Repeat("%fF", 40):        one(raw40, ""),
		"a=" + strings.Repeat("%Ff", 40): one("a", raw40),
		"a=" + strings.Repeat("=", 40):   one("a", strings.Repeat("=", 40)),
		strings.Repeat("+", 40):          one(strings.Repeat(" ", 40), ""),
		strings.Repeat("a&", 19) + "a":   slices.Repeat(one("a", ""), 20),
		strings.Repeat("a==&", 19) + "a": append(slices.Repeat(one("a", "="), 19), api.Pair{Name: "a"}),
		text40 + "=" + text40 + "&b":     {{Name: text40, Val: text40}, {Name: "b"}},
	} {
		if got, e := query.Parse(s); !slices.Equal(got, want) || e != api.OK {
			t.Errorf("Parse(%q): %q, %d, want %q", s, got, e, want)
		}
	}
}

func TestParseOfNoQuery(t *testing.T) {
	for _, s := range []string{
		"&", // the chapter's example 4
		"&&", "&&&", "&a", "a&", "&a&", "a&&b", "a&&&b", "a=1&", "&a=1", "a=1&&b=2", "a=&",
		"=", "==", "=a", "=1&a", "a&=", "a&=1", "a=1&=2", "a&=&b", "&=", "=&", "=%41", "=+",
		"%", "%%", "%%%", "%4", "%a", "a%", "a=%", "a%4", "a=%4", "a=1%4", "%41%", "%41%4", "a=%41%", "%&41", "%4&1", "a=%4&b", "%=41", "%4=1", "a=%4=1",
		"%4g", "%g4", "%gg", "%4G", "%G4", "a=%4g", "a=%g4", "%z0", "%0z", "%4 ", "% 4", "%+4", "%4+", "%-1", "%1-", "%4/", "%4:", "%4@", "%4`", "%/4", "%:4", "%@4", "%`4", "%%41", "%4%1", "%\x00\x00", "%\xff\xff", "%é", "%4é", "%x41", "%0x", "%u0041",
		"a&b=%", "%&b", "a=1&b=2%", "a=1&b=%zz&c=3",
		text41, text41 + "=", text41 + "=1", "a=" + text41, text40 + "=" + text41, raw41, "a=" + raw41, text40 + "%41", "a=" + text40 + "+", "a=" + text40 + "=", strings.Repeat("%41", 41), "a=" + strings.Repeat("%41", 41), "a&" + text41, "a&b=" + text41, text41 + "&a",
		strings.Repeat("a&", 20) + "a", strings.Repeat("a=1&", 20) + "b=2", strings.Repeat("a&", 20), strings.Repeat("a&", 19), strings.Repeat("&", 19), strings.Repeat("&", 20), strings.Repeat("a&", 20) + "%", strings.Repeat("a&", 1000) + "a",
		endless, strings.Repeat("a", 1<<20), "a=" + strings.Repeat("a", 1<<20), strings.Repeat("&", 1<<20), strings.Repeat("=", 1<<20), strings.Repeat("%", 1<<20), strings.Repeat("%41", 1<<19),
	} {
		if got, e := query.Parse(s); len(got) != 0 || e != api.ErrForm {
			t.Errorf("Parse(%.80q): %.80q, %d", s, fmt.Sprint(got), e)
		}
	}
}

func TestParseOctets(t *testing.T) {
	for c := range 256 {
		s := string([]byte{byte(c)})
		for _, digits := range []string{fmt.Sprintf("%%%02x", c), fmt.Sprintf("%%%02X", c)} {
			if got, e := query.Parse(digits + "=" + digits); !slices.Equal(got, one(s, s)) || e != api.OK {
				t.Errorf("Parse of %q: %q, %d", digits, got, e)
			}
		}
		if strings.Contains("&=%", s) {
			continue
		}
		want := s
		if s == "+" {
			want = " "
		}
		if got, e := query.Parse("a" + s + "=" + s); !slices.Equal(got, one("a"+want, want)) || e != api.OK {
			t.Errorf("Parse of octet %q: %q, %d", s, got, e)
		}
	}
}

func TestParseDigits(t *testing.T) {
	const small = "0123456789abcdef"
	place := func(c int) int {
		if c > 127 {
			return -1
		}
		return strings.Index(small, strings.ToLower(string(rune(c))))
	}
	for c := range 256 {
		for d := range 256 {
			s := "a=%" + string([]byte{byte(c), byte(d)})
			got, e := query.Parse(s)
			high, low := place(c), place(d)
			if high < 0 || low < 0 {
				if len(got) != 0 || e != api.ErrForm {
					t.Errorf("Parse(%q): %q, %d", s, got, e)
				}
				continue
			}
			if want := one("a", string([]byte{byte(high*16 + low)})); !slices.Equal(got, want) || e != api.OK {
				t.Errorf("Parse(%q): %q, %d, want %q", s, got, e, want)
			}
		}
	}
}

func TestParseLengths(t *testing.T) {
	for n := range 300 {
		for _, c := range []string{"a", "+", "%26", "\xff"} {
			s := strings.Repeat(c, n)
			if _, e := query.Parse("a=" + s); (e == api.OK) != (n <= 40) {
				t.Errorf("Parse of a value of %d octets, each %q: %d", n, c, e)
			}
			if _, e := query.Parse(s + "=a"); (e == api.OK) != (n >= 1 && n <= 40) {
				t.Errorf("Parse of a name of %d octets, each %q: %d", n, c, e)
			}
		}
		if got, e := query.Parse("a" + strings.Repeat("&a=b", n)); (e == api.OK) != (n < 20) || e == api.OK && len(got) != n+1 {
			t.Errorf("Parse of %d pairs: %d of them, %d", n+1, len(got), e)
		}
	}
}

func TestWhatIsWrittenIsRead(t *testing.T) {
	all := slices.Clone(pairs)
	for c := range 256 {
		s := string([]byte{byte(c)})
		all = append(all, one(s, s), one(s+"41", "%"+s), append(one("a", s), one(s, "")...))
	}
	made := map[string][]api.Pair{}
	for _, l := range all {
		s, e := query.Text(l)
		if e != api.OK {
			t.Fatalf("Text(%q): %d", l, e)
		}
		if got, e := query.Parse(s); !slices.Equal(got, l) || e != api.OK {
			t.Errorf("Parse(%q): %q, %d, want %q", s, got, e, l)
		}
		if other, there := made[s]; there && !slices.Equal(other, l) {
			t.Errorf("%q and %q have one text, %q", other, l, s)
		}
		made[s] = l
	}
}

// shortTexts is all texts of at most n of these octets.
func shortTexts(octets string, n int) []string {
	out := []string{""}
	last := out
	for range n {
		var next []string
		for _, s := range last {
			for _, c := range []byte(octets) {
				next = append(next, s+string([]byte{c}))
			}
		}
		out = append(out, next...)
		last = next
	}
	return out
}

// mayByWords is May as its words have it.
func mayByWords(l []api.Pair) bool {
	wrong := func(p api.Pair) bool { return p.Name == "" || len(p.Name) > 40 || len(p.Val) > 40 }
	return len(l) <= 20 && !slices.ContainsFunc(l, wrong)
}

// parseByWords is Parse as its words have it, with octets read by the library, whose form is the same.
func parseByWords(s string) ([]api.Pair, api.Errno) {
	var out []api.Pair
	if s == "" {
		return nil, api.OK
	}
	for _, part := range strings.Split(s, "&") {
		halves := append(strings.SplitN(part, "=", 2), "")
		name, nameErr := url.QueryUnescape(halves[0])
		val, valErr := url.QueryUnescape(halves[1])
		if nameErr != nil || valErr != nil {
			return nil, api.ErrForm
		}
		out = append(out, api.Pair{Name: name, Val: val})
	}
	if !mayByWords(out) {
		return nil, api.ErrForm
	}
	return out, api.OK
}

func textByWords(l []api.Pair) (string, api.Errno) {
	if !mayByWords(l) {
		return "", api.ErrArg
	}
	var parts []string
	for _, p := range l {
		parts = append(parts, url.QueryEscape(p.Name)+"="+url.QueryEscape(p.Val))
	}
	return strings.Join(parts, "&"), api.OK
}

// checkText holds May and Text against their words, and what is written against what is read.
func checkText(t *testing.T, l []api.Pair) {
	t.Helper()
	if got := query.May(l); got != mayByWords(l) {
		t.Fatalf("May(%q) is %t", l, got)
	}
	s, e := query.Text(l)
	if want, wantErr := textByWords(l); s != want || e != wantErr {
		t.Fatalf("Text(%q): %q, %d, want %q, %d", l, s, e, want, wantErr)
	}
	if e != api.OK {
		return
	}
	if got, e := query.Parse(s); !slices.Equal(got, l) || e != api.OK {
		t.Fatalf("Parse(%q): %q, %d, want %q", s, got, e, l)
	}
}

// checkParse holds Parse against its words, and what is read against what is written.
func checkParse(t *testing.T, s string) {
	t.Helper()
	got, e := query.Parse(s)
	if want, wantErr := parseByWords(s); !slices.Equal(got, want) || e != wantErr {
		t.Fatalf("Parse(%q): %q, %d, want %q, %d", s, got, e, want, wantErr)
	}
	if e != api.OK {
		return
	}
	if !query.May(got) {
		t.Fatalf("Parse(%q): %q, that may not be", s, got)
	}
	text, e := query.Text(got)
	if e != api.OK {
		t.Fatalf("Text(%q), of what was read: %d", got, e)
	}
	if again, e := query.Parse(text); !slices.Equal(again, got) || e != api.OK {
		t.Fatalf("Parse(%q): %q, written: %q, read again: %q, %d", s, got, text, again, e)
	}
}

func TestWhatIsReadIsWritten(t *testing.T) {
	for _, s := range shortTexts("aG4&=%+ \xff", 5) {
		checkParse(t, s)
	}
	for _, s := range shortTexts("4a&=%", 7) {
		checkParse(t, s)
	}
}

func TestShortPairs(t *testing.T) {
	texts := shortTexts("a=&%+ \xff", 2)
	for _, name := range texts {
		for _, val := range texts {
			checkText(t, one(name, val))
			checkText(t, append(one(name, val), api.Pair{Name: val, Val: name}))
		}
	}
}

func TestArgumentsStayAsTheyWere(t *testing.T) {
	l := []api.Pair{{Name: "a b", Val: "%"}, {Name: "c", Val: "+"}, {Name: "d"}}
	kept := slices.Clone(l)
	// Short of its end: what stands behind a list is not its own.
	query.May(l[:2])
	query.Text(l[:2])
	if !slices.Equal(l, kept) {
		t.Errorf("the pairs are %q, and were %q", l, kept)
	}
}

func TestAnswersAreNew(t *testing.T) {
	first, _ := query.Parse("a=1&b")
	first[0] = api.Pair{Name: "x", Val: "y"}
	if got, e := query.Parse("a=1&b"); !slices.Equal(got, []api.Pair{{Name: "a", Val: "1"}, {Name: "b"}}) || e != api.OK {
		t.Errorf("Parse after an answer was changed: %q, %d", got, e)
	}
}

// FuzzQuery holds the calls against the words at whatever texts and pairs: none panics, and what they answer fits together.
func FuzzQuery(f *testing.F) {
	f.Add("a=1&b", "a b", "%4a", 2)
	f.Add("a=%4a+", "", "", 0)
	f.Add("&=%\xff", text40, raw41, 20)
	f.Add("%4g", "=", "&", 21)
	f.Fuzz(func(t *testing.T, s, name, val string, n int) {
		checkParse(t, s)
		checkParse(t, s+"&"+name)
		checkParse(t, name+"="+val)
		checkText(t, one(name, val))
		checkText(t, slices.Repeat(one(name, val), max(0, min(n, 30))))
		checkText(t, append(one(name, val), one(val, s)...))
	})
}
