package filter_test

import (
	"fmt"
	"math"
	"reflect"
	"slices"
	"strings"
	"testing"

	"toll/api"
	"toll/dns"
	"toll/filter"
	"toll/pairs"
	"toll/path"
)

// Texts of the edges that the limits name.
var (
	text40  = strings.Repeat("a", api.MaxVal)
	text41  = strings.Repeat("a", api.MaxVal+1)
	name60  = strings.Repeat("abcde.", 9) + "abcdef"
	name61  = strings.Repeat("abcde.", 9) + "abcdefg"
	path58  = "/" + strings.Repeat("a", api.MaxPath-3)
	path59  = "/" + strings.Repeat("a", api.MaxPath-2)
	path60  = "/" + strings.Repeat("a", api.MaxPath-1)
	path61  = "/" + strings.Repeat("a", api.MaxPath)
	endless = strings.Repeat("a", 1<<20)
)

// noKinds are numbers of no kind of filters.
var noKinds = []int{0, 6, 7, -1, -2, -5, 1 << 32, 1<<32 + 1, -1<<32 + 1, math.MaxInt, math.MinInt}

func exact(s string) api.Path { return api.Path{Kind: api.Exact, Val: s} }

func prefix(s string) api.Path { return api.Path{Kind: api.Prefix, Val: s} }

func set(name, val string) api.Filter { return api.Filter{Kind: api.SetF, Name: name, Val: val} }

func add(name, val string) api.Filter { return api.Filter{Kind: api.AddF, Name: name, Val: val} }

func drop(name string) api.Filter { return api.Filter{Kind: api.DropF, Name: name} }

// away is sent with 301, to a path's beginning; awayWhole to all of a path.
func away(host string, port int, to string) api.Filter {
	return api.Filter{Kind: api.AwayF, Host: host, Port: port, Path: to, Code: 301}
}

func awayWhole(host string, port int, to string) api.Filter {
	return api.Filter{Kind: api.AwayF, Host: host, Port: port, Path: to, Whole: true, Code: 302}
}

func swap(host, to string) api.Filter { return api.Filter{Kind: api.SwapF, Host: host, Path: to} }

func swapWhole(host, to string) api.Filter {
	return api.Filter{Kind: api.SwapF, Host: host, Path: to, Whole: true}
}

// list is pairs of names and values, one behind the other, with room behind them.
func list(texts ...string) []api.Pair {
	out := make([]api.Pair, 0, len(texts))
	for i := 0; i+1 < len(texts); i += 2 {
		out = append(out, api.Pair{Name: texts[i], Val: texts[i+1]})
	}
	return out
}

// many is n pairs, no two names of which are the same.
func many(n int) []api.Pair {
	var out []api.Pair
	for i := range n {
		out = append(out, api.Pair{Name: fmt.Sprint("n", i), Val: fmt.Sprint("v", i)})
	}
	return out
}

// sets is n filters, no two names of which are the same.
func sets(n int) []api.Filter {
	var out []api.Filter
	for i := range n {
		out = append(out, set(fmt.Sprint("n", i), ""))
	}
	return out
}

// good is a request with something in each part.
func good() api.Request {
	return api.Request{Method: "GET", Host: "a.test", Path: "/a/b", Query: list("q", "1", "q", "2"), Head: list("Host", "a.test", "X", "0", "y", "1", "x", "2")}
}

// same: are two requests the same, with no regard to whether a list without elements is nil?
func same(a, b api.Request) bool {
	return a.Method == b.Method && a.Host == b.Host && a.Path == b.Path && slices.Equal(a.Query, b.Query) && slices.Equal(a.Head, b.Head)
}

func TestEdges(t *testing.T) {
	if api.MaxFields != 30 || api.MaxVal != 40 || len(text40) != 40 || len(text41) != 41 || len(name60) != 60 || len(name61) != 61 || len(path58) != 58 || len(path59) != 59 || len(path60) != 60 || len(path61) != 61 {
		t.Error("the limits, or the edges' texts, are others than they should")
	}
}

// mayBe is filters that may be, of each kind.
func mayBe() []api.Filter {
	return []api.Filter{
		set("x", ""), set("X-A", "b c"), set(text40, text40), set("!#$%&'*+-.^_|~`", "~"),
		add("x", ""), add("x", "1"), add("0", "a  b"), add(text40, text40),
		drop("x"), drop("X"), drop(text40), drop("*"),
		away("", 0, ""), away("a", 0, ""), away("a.b-c", 1, ""), away("", 80, ""), away("", 443, ""), away("", 65535, ""), away(name60, 65535, path60), away("", 0, "/"), away("", 0, "/a"), away("", 0, "/a/b"), away("", 0, "//a"),
		awayWhole("", 0, "/"), awayWhole("", 0, "/a"), awayWhole("", 0, "/a/"), awayWhole("", 0, "//"), awayWhole("a", 8080, path59+"/"), awayWhole("", 0, path60),
		swap("a", ""), swap("", "/"), swap("", "/a"), swap("a", "/a"), swap(name60, path60),
		swapWhole("", "/"), swapWhole("", "/a/"), swapWhole("a", "//"), swapWhole("", path59+"/"),
	}
}

func TestMay(t *testing.T) {
	for _, f := range mayBe() {
		if !filter.May(f) || !filter.All([]api.Filter{f}) {
			t.Errorf("of %+v May is %t, All %t", f, filter.May(f), filter.All([]api.Filter{f}))
		}
	}
}

// TestMayNotKind has what each kind may have, with no kind's number.
func TestMayNotKind(t *testing.T) {
	for _, kind := range noKinds {
		for _, f := range append(mayBe(), api.Filter{}) {
			f.Kind = kind
			if filter.May(f) || filter.All([]api.Filter{f}) {
				t.Errorf("May(%+v) is true", f)
			}
		}
	}
}

// others is, for each kind, a filter that may be, and each field that must be zero set to something that another kind might have.
func others() map[api.Filter][]func(f *api.Filter) {
	name := func(f *api.Filter) { f.Name = "x" }
	val := func(f *api.Filter) { f.Val = "y" }
	host := func(f *api.Filter) { f.Host = "a" }
	port := func(f *api.Filter) { f.Port = 80 }
	to := func(f *api.Filter) { f.Path = "/a" }
	whole := func(f *api.Filter) { f.Whole = true }
	wholePath := func(f *api.Filter) { f.Path, f.Whole = "/a", true }
	code := func(f *api.Filter) { f.Code = 301 }
	other := func(f *api.Filter) { f.Port, f.Code = -1, -1 }
	return map[api.Filter][]func(f *api.Filter){
		set("x", "1"):             {host, port, to, whole, wholePath, code, other},
		set("x", ""):              {host, port, to, whole, wholePath, code, other},
		add("x", "1"):             {host, port, to, whole, wholePath, code, other},
		add("x", ""):              {host, port, to, whole, wholePath, code, other},
		drop("x"):                 {val, host, port, to, whole, wholePath, code, other},
		away("", 0, ""):           {name, val},
		away("a", 80, "/a"):       {name, val},
		awayWhole("a", 80, "/a/"): {name, val},
		swap("a", ""):             {name, val, port, code, other},
		swap("", "/a"):            {name, val, port, code, other},
		swapWhole("a", "/a/"):     {name, val, port, code, other},
	}
}

func TestMayNotOthersFields(t *testing.T) {
	for f, changes := range others() {
		if !filter.May(f) {
			t.Errorf("May(%+v) is false", f)
		}
		for _, change := range changes {
			g := f
			change(&g)
			if g == f || filter.May(g) || filter.All([]api.Filter{g}) {
				t.Errorf("May(%+v) is true", g)
			}
		}
	}
}

func TestMayNot(t *testing.T) {
	for _, f := range []api.Filter{
		{},
		{Kind: api.SetF}, {Kind: api.AddF}, {Kind: api.DropF}, {Kind: api.AwayF}, {Kind: api.SwapF},
		set("", "1"), set("a b", "1"), set("a:", "1"), set("é", "1"), set("\xff", "1"), set(text41, "1"), set(endless, "1"),
		set("x", " 1"), set("x", "1 "), set("x", "\n"), set("x", "\x7f"), set("x", "é"), set("x", text41), set("x", endless),
		add("", "1"), add("a b", "1"), add("x\x00", "1"), add(text41, "1"),
		add("x", " "), add("x", "\t"), add("x", "\x1f"), add("x", "\xff"), add("x", text41),
		drop(""), drop("a b"), drop("a,"), drop("\xff"), drop(text41), drop(endless),
		away("*.a", 0, ""), away("A", 0, ""), away("a.", 0, ""), away(".a", 0, ""), away("a:80", 0, ""), away("-a", 0, ""), away("a b", 0, ""), away("\xff", 0, ""), away(name61, 0, ""), away(endless, 0, ""),
		away("", 0, "a"), away("", 0, "/a/"), away("", 0, "//"), away("", 0, "/ "), away("", 0, "/?"), away("", 0, "/a#"), away("", 0, "/é"), away("", 0, path61), away("", 0, path59+"/"), away("", 0, "/"+endless),
		awayWhole("", 0, ""), awayWhole("a", 80, ""), awayWhole("", 0, "a"), awayWhole("", 0, "/ "), awayWhole("", 0, "/?"), awayWhole("", 0, path61), awayWhole("", 0, path60+"/"), awayWhole("*.a", 0, "/"),
		swap("", ""), swap("*.a", ""), swap("A", "/a"), swap("a.", "/a"), swap(name61, ""), swap(name61, "/a"), swap("\xff", "/a"),
		swap("", "a"), swap("", "/a/"), swap("a", "/a/"), swap("a", "//"), swap("", "/#"), swap("", path61), swap("a", path61), swap("a", "/\x00"),
		swapWhole("", ""), swapWhole("a", ""), swapWhole("", "a/"), swapWhole("", "/ "), swapWhole("", path61), swapWhole("a", path60+"/"), swapWhole("A", "/"),
	} {
		if filter.May(f) || filter.All([]api.Filter{f}) {
			t.Errorf("May(%.200q) is true", fmt.Sprint(f))
		}
	}
}

func TestMayPorts(t *testing.T) {
	for n, want := range map[int]bool{
		-1: false, 0: true, 1: true, 79: true, 80: true, 443: true, 32768: true, 65534: true, 65535: true, 65536: false, 65537: false, 131072: false,
		-65535: false, 1 << 31: false, 1 << 32: false, 1<<32 + 80: false, -1 << 32: false, math.MaxInt: false, math.MinInt: false,
	} {
		for _, f := range []api.Filter{away("", n, ""), away("a", n, "/a"), awayWhole("a", n, "/a/")} {
			if filter.May(f) != want {
				t.Errorf("May(%+v) is %t", f, !want)
			}
		}
		for _, f := range []api.Filter{set("x", "1"), add("x", "1"), drop("x"), swap("a", "/a")} {
			f.Port = n
			if filter.May(f) != (n == 0) {
				t.Errorf("May(%+v) is %t", f, filter.May(f))
			}
		}
	}
}

func TestMayCodes(t *testing.T) {
	codes := []int{-301, -302, -1, 1<<32 + 301, 1<<32 + 302, 1<<16 + 301, math.MaxInt, math.MinInt}
	for n := range 1000 {
		codes = append(codes, n)
	}
	for _, n := range codes {
		for _, f := range []api.Filter{away("", 0, ""), away("a", 80, "/a"), awayWhole("", 0, "/a/")} {
			f.Code = n
			if filter.May(f) != (n == 301 || n == 302) {
				t.Errorf("May(%+v) is %t", f, filter.May(f))
			}
		}
		for _, f := range []api.Filter{set("x", "1"), add("x", "1"), drop("x"), swap("a", "/a")} {
			f.Code = n
			if filter.May(f) != (n == 0) {
				t.Errorf("May(%+v) is %t", f, filter.May(f))
			}
		}
	}
}

// TestMayOctets has each octet in each text.
func TestMayOctets(t *testing.T) {
	for c := range 256 {
		s := string([]byte{'a', byte(c), 'a'})
		for _, f := range []api.Filter{set(s, ""), set("x", s), add(s, ""), add("x", s), drop(s), away(s, 0, ""), away("", 0, "/"+s), awayWhole("", 0, "/"+s), swap(s, ""), swap("", "/"+s), swapWhole("", "/"+s)} {
			if filter.May(f) != mayByWords(f) {
				t.Errorf("May(%+q) is %t", fmt.Sprint(f), filter.May(f))
			}
		}
	}
}

func TestAll(t *testing.T) {
	for i, l := range [][]api.Filter{
		nil,
		{},
		{set("x", "1")},
		{set("x", "1"), set("y", "1")}, // one kind, two names
		{add("x", "1"), add("y", "1"), add("xy", "1")},
		{drop("x"), drop("y")},
		{set("x", "1"), add("x", "1")}, // one name, two kinds
		{set("x", "1"), add("X", "1"), drop("x")},
		{drop("x"), add("x", "1"), set("x", "1"), drop("y"), add("y", "1"), set("y", "1"), away("", 0, "")},
		{set("^", "1"), set("~", "1")}, // as far apart as letters of both sizes
		{away("", 0, "")},
		{swap("a", "")},
		{set("x", ""), away("", 0, ""), drop("x")},
		{swap("a", ""), set("x", "")},
		sets(8),
		append(sets(7), swap("a", "")),
		append([]api.Filter{away("", 0, "")}, sets(7)...),
	} {
		if !filter.All(l) {
			t.Errorf("%d: All(%+v) is false", i, l)
		}
	}
	for i, l := range [][]api.Filter{
		{{}},
		{{}, {}},
		{set("x", "1"), {}},
		{{}, set("x", "1")},
		{set("x", "1"), set("x", "1")},
		{set("x", "1"), set("x", "2")},
		{set("x", "1"), set("X", "1")}, // letters' size alone
		{set("X-a", "1"), add("x", "1"), set("x-A", "2")},
		{add("x", "1"), add("X", "2")},
		{add("x", "1"), add("x", "1")},
		{drop("x"), drop("x")},
		{drop("X"), set("y", ""), drop("x")},
		{away("", 0, ""), away("", 0, "")},
		{away("a", 0, ""), away("b", 1, "/a")},
		{away("", 0, ""), awayWhole("", 0, "/")},
		{away("", 0, ""), swap("a", "")},
		{swap("a", ""), away("", 0, "")},
		{swap("a", ""), swap("a", "")},
		{swap("a", ""), swap("", "/b")},
		{swap("a", ""), set("x", "1"), swapWhole("", "/b/")},
		{away("", 0, ""), set("x", "1"), add("x", "1"), drop("x"), swap("a", "")},
		sets(9),
		append(sets(8), swap("a", "")),
		append(sets(8), away("", 0, "")),
		sets(1000),
		make([]api.Filter, 1<<20),
	} {
		if filter.All(l) {
			t.Errorf("%d: All(%.200q) is true", i, fmt.Sprint(l))
		}
	}
}

func TestAllCounts(t *testing.T) {
	for n := range 30 {
		if got := filter.All(sets(n)); got != (n <= 8) {
			t.Errorf("All of %d is %t", n, got)
		}
	}
}

// TestAllPlaces has one that may not be, and each two that may not be beside each other, at all places of eight.
func TestAllPlaces(t *testing.T) {
	for i := range 8 {
		l := sets(8)
		l[i] = set("a b", "")
		if filter.All(l) {
			t.Errorf("All with one that may not be at %d is true", i)
		}
		for k := range 8 {
			if i == k {
				continue
			}
			for _, two := range [][2]api.Filter{{away("", 0, ""), swap("a", "")}, {away("", 0, ""), away("a", 0, "")}, {swap("a", ""), swap("", "/")}, {set("x", "1"), set("X", "2")}, {add("x", "1"), add("X", "2")}, {drop("x"), drop("X")}} {
				l := sets(8)
				l[i], l[k] = two[0], two[1]
				if filter.All(l) {
					t.Errorf("All with %+v at %d and %d is true", two, i, k)
				}
			}
			l := sets(8)
			l[i], l[k] = add("x", "1"), drop("x")
			if !filter.All(l) {
				t.Errorf("All with two kinds of one name at %d and %d is false", i, k)
			}
		}
	}
}

// The chapter's words, said once more, field by field.

func mayByWords(f api.Filter) bool {
	nothing := f.Host == "" && f.Port == 0 && f.Path == "" && !f.Whole && f.Code == 0
	host := f.Host == "" || dns.Name(f.Host)
	to := f.Path == "" && !f.Whole || path.Is(f.Path) && (f.Whole || f.Path == "/" || f.Path[len(f.Path)-1] != '/')
	switch f.Kind {
	case 1, 2:
		return pairs.Token(f.Name) && pairs.Value(f.Val) && nothing
	case 3:
		return pairs.Token(f.Name) && f.Val == "" && nothing
	case 4:
		return host && f.Port >= 0 && f.Port <= 65535 && to && (f.Code == 301 || f.Code == 302) && f.Name+f.Val == ""
	case 5:
		return host && to && f.Host+f.Path != "" && f.Port == 0 && f.Code == 0 && f.Name+f.Val == ""
	}
	return false
}

func allByWords(l []api.Filter) bool {
	sent := 0
	names := map[string]int{}
	for _, f := range l {
		if !mayByWords(f) {
			return false
		}
		if f.Kind == 4 || f.Kind == 5 {
			sent++
		}
		names[fmt.Sprint(f.Kind, " ", strings.ToLower(f.Name))]++ // tokens alone come so far
	}
	return len(l) <= 8 && sent <= 1 && len(names) == len(l)
}

func becomesByWords(f api.Filter, p api.Path, s string) (string, api.Errno) {
	if f.Path == "" {
		return s, api.OK
	}
	if f.Whole || p.Kind == 1 {
		return f.Path, api.OK
	}
	rest := strings.TrimPrefix(s, p.Val)
	if p.Val == "/" && rest != "" {
		rest = "/" + rest
	}
	out := strings.TrimSuffix(f.Path, "/") + rest
	if out == "" {
		out = "/"
	}
	if len(out) > 60 {
		return "", api.ErrLarge
	}
	return out, api.OK
}

func doByWords(l []api.Filter, p api.Path, r api.Request) (api.Request, api.Errno) {
	if !allByWords(l) || !path.Holds(p, r.Path) {
		return api.Request{}, api.ErrArg
	}
	head := slices.Clone(r.Head)
	for _, f := range l {
		named := func(p api.Pair) bool { return pairs.Same(p.Name, f.Name) }
		switch f.Kind {
		case 1:
			at := slices.IndexFunc(head, named)
			head = slices.DeleteFunc(head, named)
			if at < 0 {
				at = len(head)
			}
			head = slices.Insert(head, at, api.Pair{Name: f.Name, Val: f.Val})
		case 2:
			head = append(head, api.Pair{Name: f.Name, Val: f.Val})
		case 3:
			head = slices.DeleteFunc(head, named)
		case 5:
			to, e := becomesByWords(f, p, r.Path)
			if e != api.OK {
				return api.Request{}, e
			}
			r.Path = to
			if f.Host != "" {
				r.Host = f.Host
			}
		}
	}
	if len(head) > 30 {
		return api.Request{}, api.ErrLarge
	}
	r.Head = head
	return r, api.OK
}

func awayByWords(l []api.Filter, p api.Path, r api.Request, tls bool) (api.Away, api.Errno) {
	if !allByWords(l) || !path.Holds(p, r.Path) {
		return api.Away{}, api.ErrArg
	}
	for _, f := range l {
		if f.Kind != 4 {
			continue
		}
		to, e := becomesByWords(f, p, r.Path)
		if e != api.OK {
			return api.Away{}, e
		}
		begin, port := "http", fmt.Sprint(":", f.Port)
		if tls {
			begin = "https"
		}
		if f.Port == 0 || f.Port == map[bool]int{false: 80, true: 443}[tls] {
			port = ""
		}
		if f.Host != "" {
			r.Host = f.Host
		}
		return api.Away{Code: f.Code, To: begin + "://" + r.Host + port + to}, api.OK
	}
	return api.Away{}, api.ErrNone
}

// check holds all calls against the words.
func check(t *testing.T, l []api.Filter, p api.Path, r api.Request) {
	t.Helper()
	if got := filter.All(l); got != allByWords(l) {
		t.Fatalf("All(%+q) is %t", fmt.Sprint(l), got)
	}
	got, e := filter.Do(l, p, r)
	if want, wantErr := doByWords(l, p, r); !same(got, want) || e != wantErr {
		t.Fatalf("Do(%+q, %q, %q): %q, %d, want %q, %d", fmt.Sprint(l), fmt.Sprint(p), fmt.Sprint(r), fmt.Sprint(got), e, fmt.Sprint(want), wantErr)
	}
	for _, tls := range []bool{false, true} {
		got, e := filter.Away(l, p, r, tls)
		if want, wantErr := awayByWords(l, p, r, tls); got != want || e != wantErr {
			t.Fatalf("Away(%+q, %q, %q, %t): %q, %d, want %q, %d", fmt.Sprint(l), fmt.Sprint(p), fmt.Sprint(r), tls, fmt.Sprint(got), e, fmt.Sprint(want), wantErr)
		}
	}
}

// someOf is a few values of each field, in all ways; most of them may not be.
func someOf(visit func(f api.Filter)) {
	for _, kind := range []int{-1, 0, 1, 2, 3, 4, 5, 6} {
		for _, name := range []string{"", "x", "a b"} {
			for _, val := range []string{"", "1", " "} {
				for _, host := range []string{"", "a.b", "*.a"} {
					for _, port := range []int{-1, 0, 80, 65535, 65536} {
						for _, to := range []string{"", "/", "/a", "/a/", "a"} {
							for _, code := range []int{0, 300, 301, 302, 303} {
								for _, whole := range []bool{false, true} {
									visit(api.Filter{Kind: kind, Name: name, Val: val, Host: host, Port: port, Path: to, Whole: whole, Code: code})
								}
							}
						}
					}
				}
			}
		}
	}
}

func TestMayByWords(t *testing.T) {
	may := map[int]int{}
	someOf(func(f api.Filter) {
		got := filter.May(f)
		if got != mayByWords(f) || got != filter.All([]api.Filter{f}) {
			t.Fatalf("May(%+v) is %t", f, got)
		}
		if got {
			may[f.Kind]++
		}
	})
	// By the values above: names 1, values 2 (DropF 1); hosts 2, ports 3, paths 3 that are Whole and 3 that are not, numbers 2; SwapF without the one that has neither host nor path.
	if want := (map[int]int{1: 2, 2: 2, 3: 1, 4: 2 * 3 * (3 + 3) * 2, 5: 2*(3+3) - 1}); !reflect.DeepEqual(may, want) {
		t.Errorf("so many of each kind may be: %v, want %v", may, want)
	}
}

func TestDo(t *testing.T) {
	base := list("X", "0", "y", "1", "x", "2")
	for i, c := range []struct {
		l    []api.Filter
		want []api.Pair
	}{
		{nil, base},
		{[]api.Filter{}, base},
		{[]api.Filter{set("x", "1")}, list("x", "1", "y", "1")}, // the chapter's example 1
		{[]api.Filter{set("Y", "")}, list("X", "0", "Y", "", "x", "2")},
		{[]api.Filter{set("z", "1")}, list("X", "0", "y", "1", "x", "2", "z", "1")},
		{[]api.Filter{add("x", "1")}, list("X", "0", "y", "1", "x", "2", "x", "1")},
		{[]api.Filter{add("z", "")}, list("X", "0", "y", "1", "x", "2", "z", "")},
		{[]api.Filter{drop("x")}, list("y", "1")},
		{[]api.Filter{drop("z")}, base},
		{[]api.Filter{drop("x"), drop("y")}, nil},
		{[]api.Filter{drop("x"), add("x", "3")}, list("y", "1", "x", "3")}, // in their order
		{[]api.Filter{add("x", "3"), drop("x")}, list("y", "1")},
		{[]api.Filter{drop("x"), set("X", "3")}, list("y", "1", "X", "3")},
		{[]api.Filter{set("X", "3"), drop("x")}, list("y", "1")},
		{[]api.Filter{set("x", "3"), add("x", "4")}, list("x", "3", "y", "1", "x", "4")},
		{[]api.Filter{add("x", "4"), set("x", "3")}, list("x", "3", "y", "1")},
		{[]api.Filter{away("b", 81, "/q")}, base},
		{[]api.Filter{away("b", 81, "/q"), drop("x")}, list("y", "1")}, // it sends elsewhere, and those behind it are done all the same
		{[]api.Filter{drop("x"), awayWhole("", 0, path60)}, list("y", "1")},
	} {
		r := api.Request{Method: "PUT", Host: "a.test", Path: "/a/b", Query: list("q", "1"), Head: slices.Clone(base)}
		want := r
		want.Head = c.want
		if got, e := filter.Do(c.l, prefix("/a"), r); !same(got, want) || e != api.OK {
			t.Errorf("%d: Do(%+v): %+v, %d", i, c.l, got, e)
		}
	}
}

func TestDoSwap(t *testing.T) {
	for _, c := range []struct {
		f          api.Filter
		p          api.Path
		s          string
		host, want string
	}{
		{swap("", "/x"), prefix("/a"), "/a/b", "a.test", "/x/b"}, // the chapter's example 2
		{swap("b.test", "/x"), prefix("/a"), "/a/b", "b.test", "/x/b"},
		{swap("b.test", ""), prefix("/a"), "/a/b", "b.test", "/a/b"},
		{swap("b.test", ""), exact("/a/b"), "/a/b", "b.test", "/a/b"},
		{swap("", "/x"), prefix("/a"), "/a", "a.test", "/x"},
		{swap("", "/x"), prefix("/a"), "/a/", "a.test", "/x/"},
		{swap("", "/x"), prefix("/"), "/a/b", "a.test", "/x/a/b"},
		{swap("", "/x"), prefix("/"), "/", "a.test", "/x"},
		{swap("", "/"), prefix("/a"), "/a/b", "a.test", "/b"},
		{swap("", "/"), prefix("/a"), "/a", "a.test", "/"},
		{swap("", "/"), prefix("/"), "/a/", "a.test", "/a/"},
		{swap("", "/"), prefix("/"), "/", "a.test", "/"},
		{swap("", "/x"), exact("/a/b"), "/a/b", "a.test", "/x"},
		{swap("", "/"), exact("/a/b"), "/a/b", "a.test", "/"},
		{swap("", "/x"), exact("/"), "/", "a.test", "/x"},
		{swap("", path60), exact(path59 + "/"), path59 + "/", "a.test", path60},
		{swap("b", path60), prefix("/a"), "/a", "b", path60},
		{swap("b", path58), prefix("/a"), "/a/b", "b", path58 + "/b"},
		{swapWhole("", "/x"), prefix("/a"), "/a/b", "a.test", "/x"},
		{swapWhole("", "/x/"), prefix("/a"), "/a/b", "a.test", "/x/"},
		{swapWhole("b", "/"), prefix("/"), "/a/b", "b", "/"},
		{swapWhole("", "//"), exact("/a"), "/a", "a.test", "//"},
		{swapWhole("", path60), prefix("/"), path60, "a.test", path60},
		{swapWhole("", path59+"/"), prefix("/"), "/a/b", "a.test", path59 + "/"},
	} {
		r := good()
		r.Path = c.s
		want := r
		want.Host, want.Path = c.host, c.want
		if got, e := filter.Do([]api.Filter{c.f}, c.p, r); !same(got, want) || e != api.OK {
			t.Errorf("Do(%+v, %v) of %q: %+v, %d", c.f, c.p, c.s, got, e)
		}
		if got, e := filter.Away([]api.Filter{c.f}, c.p, r, true); got != (api.Away{}) || e != api.ErrNone {
			t.Errorf("Away(%+v): %v, %d", c.f, got, e)
		}
	}
}

// TestDoAllAtOnce has filters of all kinds that may be in one list: each does its own.
func TestDoAllAtOnce(t *testing.T) {
	for _, at := range []int{0, 1, 2, 3} {
		l := slices.Insert([]api.Filter{set("x", "5"), add("z", "6"), drop("Y")}, at, swap("b.test", "/q"))
		want := api.Request{Method: "GET", Host: "b.test", Path: "/q/b", Query: list("q", "1", "q", "2"), Head: list("Host", "a.test", "x", "5", "z", "6")}
		if got, e := filter.Do(l, prefix("/a"), good()); !same(got, want) || e != api.OK {
			t.Errorf("with SwapF at %d: %+v, %d", at, got, e)
		}
	}
}

// noFit is paths that are asked for, and may not be, or do not hold for /a/b.
func noFit() []api.Path {
	return []api.Path{
		{}, exact("/a"), exact("/a/b/"), exact("/"), exact(""), exact("a"), exact("/A/b"), prefix("/ab"), prefix("/a/b/c"), prefix("/b"), prefix("/a/"), prefix("//"), prefix(""), prefix(path61), exact("/a/b\xff"),
		{Kind: 0, Val: "/a/b"}, {Kind: 3, Val: "/a/b"}, {Kind: -1, Val: "/"}, {Kind: 1<<32 + 1, Val: "/a/b"}, {Kind: math.MinInt, Val: "/"}, {Kind: math.MaxInt, Val: "/"},
	}
}

// wrongLists is lists of filters that may not be.
func wrongLists() [][]api.Filter {
	return [][]api.Filter{
		{{}}, {{Kind: 6, Name: "x"}}, {{Kind: -1, Name: "x"}}, {set("", "1")}, {set("x", " ")}, {swap("", "")}, {swap("", "/a/")}, {away("", -1, "")}, {away("", 65536, "")}, {awayWhole("", 0, "")}, {awayWhole("", 0, ""), set("x", "1")},
		{away("", 0, ""), swap("a", "")}, {away("", 0, ""), away("", 0, "")}, {set("x", "1"), set("X", "1")}, {away("", 0, ""), {}}, {{}, away("", 0, "")}, {swap("", path60), {Kind: math.MaxInt}},
		append(sets(8), away("", 0, "")), sets(9), make([]api.Filter, 1<<16),
	}
}

func checkRefused(t *testing.T, l []api.Filter, p api.Path, r api.Request, want api.Errno) {
	t.Helper()
	if got, e := filter.Do(l, p, r); !reflect.DeepEqual(got, api.Request{}) || e != want {
		t.Errorf("Do(%.200q, %.80q, %.80q): %.200q, %d, want %d", fmt.Sprint(l), fmt.Sprint(p), r.Path, fmt.Sprint(got), e, want)
	}
}

func checkNotSent(t *testing.T, l []api.Filter, p api.Path, r api.Request, want api.Errno) {
	t.Helper()
	for _, tls := range []bool{false, true} {
		if got, e := filter.Away(l, p, r, tls); got != (api.Away{}) || e != want {
			t.Errorf("Away(%.200q, %.80q, %.80q): %.200q, %d, want %d", fmt.Sprint(l), fmt.Sprint(p), r.Path, fmt.Sprint(got), e, want)
		}
	}
}

func TestWrongInputs(t *testing.T) {
	crowded := good()
	crowded.Head = many(31)
	for _, r := range []api.Request{good(), crowded} { // ErrArg is named ahead of ErrLarge
		for _, p := range noFit() {
			for _, l := range [][]api.Filter{nil, {set("x", "1")}, {away("", 0, "")}, {away("", 0, path60)}, {swap("", path60)}, {swapWhole("", "/a/")}} {
				checkRefused(t, l, p, r, api.ErrArg)
				checkNotSent(t, l, p, r, api.ErrArg)
			}
		}
		for _, l := range wrongLists() {
			for _, p := range []api.Path{prefix("/a"), prefix("/"), exact("/a/b"), exact("/a"), {}} {
				checkRefused(t, l, p, r, api.ErrArg)
				checkNotSent(t, l, p, r, api.ErrArg)
			}
		}
	}
	for _, s := range []string{"", "a", "/ ", "/?", "/a#", "/\xff", path61, "/" + endless} {
		r := good()
		r.Path = s
		for _, p := range []api.Path{prefix("/"), prefix("/a"), exact(s), prefix(s)} {
			for _, l := range [][]api.Filter{nil, {away("", 0, "")}, {awayWhole("", 0, "/")}, {swapWhole("", "/")}} {
				checkRefused(t, l, p, r, api.ErrArg)
				checkNotSent(t, l, p, r, api.ErrArg)
			}
		}
	}
}

func TestPathTooLong(t *testing.T) {
	for _, c := range []struct {
		val, with, s string
		want         api.Errno
	}{
		{"/a", path60, "/a", api.OK},
		{"/a", path59, "/a/", api.OK},
		{"/a", path58, "/a/b", api.OK},
		{"/", path58, "/b", api.OK},
		{"/", "/x", path58, api.OK},
		{"/", "/", path60, api.OK},
		{"/a", path60, "/a/", api.ErrLarge},
		{"/a", path59, "/a/b", api.ErrLarge},
		{"/a", path58, "/a/bc", api.ErrLarge},
		{"/", path59, "/b", api.ErrLarge},
		{"/", "/x", path59, api.ErrLarge},
		{"/", path60, path60, api.ErrLarge},
	} {
		r := good()
		r.Path = c.s
		others := []api.Filter{set("x", "1"), drop("y")}
		if c.want != api.OK {
			checkRefused(t, []api.Filter{swap("", c.with)}, prefix(c.val), r, c.want)
			checkRefused(t, append(slices.Clone(others), swap("b", c.with)), prefix(c.val), r, c.want)
			checkRefused(t, append([]api.Filter{swap("b", c.with)}, others...), prefix(c.val), r, c.want)
			checkNotSent(t, []api.Filter{away("", 0, c.with)}, prefix(c.val), r, c.want)
			checkNotSent(t, append(slices.Clone(others), away("b", 81, c.with)), prefix(c.val), r, c.want)
		}
		check(t, []api.Filter{swap("", c.with)}, prefix(c.val), r)
		check(t, []api.Filter{away("", 0, c.with)}, prefix(c.val), r)
		// Where it is sent to is too long, but Do does not change it: there is nothing to refuse.
		if got, e := filter.Do([]api.Filter{away("", 0, c.with)}, prefix(c.val), r); !same(got, r) || e != api.OK {
			t.Errorf("Do of an AwayF to %q: %+v, %d", c.with, got, e)
		}
		check(t, []api.Filter{swapWhole("", c.with)}, prefix(c.val), r)
		check(t, []api.Filter{awayWhole("", 0, c.with)}, prefix(c.val), r)
		check(t, []api.Filter{swap("", c.with)}, exact(c.s), r)
		check(t, []api.Filter{away("", 0, c.with)}, exact(c.s), r)
	}
}

func TestHeadSizes(t *testing.T) {
	for _, c := range []struct {
		l    []api.Filter
		n    int // fields ahead
		want int // fields then; more than 30 are refused
	}{
		{nil, 29, 29},
		{nil, 30, 30},
		{nil, 31, 31}, // too many, even if no filter is to blame
		{nil, 1000, 1000},
		{[]api.Filter{away("", 0, "")}, 30, 30},
		{[]api.Filter{away("", 0, "")}, 31, 31},
		{[]api.Filter{swap("a", "")}, 30, 30},
		{[]api.Filter{swap("a", "")}, 31, 31},
		{[]api.Filter{add("z", "1")}, 29, 30},
		{[]api.Filter{add("z", "1")}, 30, 31},
		{[]api.Filter{add("n1", "1")}, 29, 30},
		{[]api.Filter{add("n1", "1")}, 30, 31},
		{[]api.Filter{set("z", "1")}, 29, 30},
		{[]api.Filter{set("z", "1")}, 30, 31},
		{[]api.Filter{set("n1", "1")}, 30, 30},
		{[]api.Filter{set("n1", "1")}, 31, 31},
		{[]api.Filter{drop("N1")}, 31, 30}, // it makes room
		{[]api.Filter{drop("z")}, 31, 31},
		{[]api.Filter{drop("n1")}, 32, 31},
		{[]api.Filter{drop("n1"), add("z", "1")}, 30, 30},
		{[]api.Filter{add("z", "1"), drop("n1")}, 30, 30}, // too many in between alone
		{[]api.Filter{add("z", "1"), set("y", "1"), drop("n1"), drop("n2")}, 30, 30},
		{[]api.Filter{add("z", "1"), set("y", "1"), drop("n1")}, 30, 31},
		{[]api.Filter{add("n1", "1"), set("n1", "2")}, 30, 30},
		{[]api.Filter{set("n1", "2"), add("n1", "1")}, 30, 31},
		{[]api.Filter{add("a", ""), add("b", ""), add("c", ""), add("d", ""), add("e", ""), add("f", ""), add("g", ""), add("h", "")}, 22, 30},
		{[]api.Filter{add("a", ""), add("b", ""), add("c", ""), add("d", ""), add("e", ""), add("f", ""), add("g", ""), add("h", "")}, 23, 31},
	} {
		r := api.Request{Path: "/a", Head: many(c.n)}
		got, e := filter.Do(c.l, prefix("/a"), r)
		if c.want <= 30 && (e != api.OK || len(got.Head) != c.want) {
			t.Errorf("%+v, %d fields: %d then, %d", c.l, c.n, len(got.Head), e)
		}
		if c.want > 30 {
			checkRefused(t, c.l, prefix("/a"), r, api.ErrLarge)
		}
		check(t, c.l, prefix("/a"), r)
	}
	// Fields of one name: one filter takes all of them away.
	r := api.Request{Path: "/a", Head: slices.Repeat(list("x", "1", "X", "2"), 1000)}
	for _, f := range []api.Filter{set("x", "3"), drop("X")} {
		if got, e := filter.Do([]api.Filter{f}, prefix("/"), r); e != api.OK || len(got.Head) > 1 {
			t.Errorf("Do(%+v) of 2000 fields: %d, %d", f, len(got.Head), e)
		}
	}
	if got, e := filter.Away([]api.Filter{away("", 0, "")}, prefix("/"), r, false); got.To != "http:///a" || e != api.OK {
		t.Errorf("Away of 2000 fields: %v, %d", got, e) // a head's size is Do's alone
	}
}

func TestAway(t *testing.T) {
	a := prefix("/a")
	for _, c := range []struct {
		f    api.Filter
		p    api.Path
		s    string
		tls  bool
		want string
	}{
		{away("b.test", 0, ""), a, "/a", true, "https://b.test/a"}, // the chapter's example 3
		{away("b.test", 0, ""), a, "/a", false, "http://b.test/a"},
		{away("", 0, ""), a, "/a/b", false, "http://a.test/a/b"},
		{away("", 0, ""), a, "/a/b", true, "https://a.test/a/b"},
		{away("", 80, ""), a, "/a/b", false, "http://a.test/a/b"},
		{away("", 80, ""), a, "/a/b", true, "https://a.test:80/a/b"},
		{away("", 443, ""), a, "/a/b", false, "http://a.test:443/a/b"},
		{away("", 443, ""), a, "/a/b", true, "https://a.test/a/b"},
		{away("b", 80, ""), a, "/a/b", false, "http://b/a/b"},
		{away("b", 80, ""), a, "/a/b", true, "https://b:80/a/b"},
		{away("b", 443, ""), a, "/a/b", false, "http://b:443/a/b"},
		{away("b", 443, ""), a, "/a/b", true, "https://b/a/b"},
		{away("", 1, ""), a, "/a/b", false, "http://a.test:1/a/b"},
		{away("", 1, ""), a, "/a/b", true, "https://a.test:1/a/b"},
		{away("", 8080, ""), a, "/a/b", false, "http://a.test:8080/a/b"},
		{away("b", 65535, ""), a, "/a/b", true, "https://b:65535/a/b"},
		{away("", 0, "/x"), a, "/a/b", false, "http://a.test/x/b"},
		{away("", 0, "/x"), a, "/a", false, "http://a.test/x"},
		{away("", 0, "/x"), prefix("/"), "/a/b", false, "http://a.test/x/a/b"},
		{away("", 0, "/x"), prefix("/"), "/", false, "http://a.test/x"},
		{away("", 0, "/"), a, "/a/b", false, "http://a.test/b"},
		{away("", 0, "/"), a, "/a", false, "http://a.test/"},
		{away("", 0, "/"), prefix("/"), "/", true, "https://a.test/"},
		{away("b", 81, "/x/y"), a, "/a/b", true, "https://b:81/x/y/b"},
		{away("", 0, "/x"), exact("/a/b"), "/a/b", false, "http://a.test/x"},
		{away("", 0, "/"), exact("/a/b"), "/a/b", false, "http://a.test/"},
		{away("b", 0, ""), exact("/a/b"), "/a/b", false, "http://b/a/b"},
		{awayWhole("", 0, "/x"), a, "/a/b", false, "http://a.test/x"},
		{awayWhole("", 0, "/x/"), a, "/a/b", false, "http://a.test/x/"},
		{awayWhole("b", 81, "/x/"), exact("/a/b"), "/a/b", true, "https://b:81/x/"},
		{awayWhole("", 0, path60), prefix("/"), path60, false, "http://a.test" + path60},
		{away(name60, 65535, path58), a, "/a/b", true, "https://" + name60 + ":65535" + path58 + "/b"},
	} {
		r := good()
		r.Path = c.s
		for _, code := range []int{301, 302} {
			c.f.Code = code
			for _, l := range [][]api.Filter{{c.f}, {set("Host", "c.test"), c.f, drop("host")}, {add("x", "1"), c.f}, append(sets(7), c.f), {c.f, drop("x")}} {
				if got, e := filter.Away(l, c.p, r, c.tls); got != (api.Away{Code: code, To: c.want}) || e != api.OK {
					t.Errorf("Away(%+v, %v, %q, %t): %v, %d, want %q", l, c.p, c.s, c.tls, got, e, c.want)
				}
			}
		}
	}
}

func TestAwayNone(t *testing.T) {
	for _, l := range [][]api.Filter{nil, {}, {set("x", "1")}, {add("x", "1"), drop("x")}, {swap("b", "/x")}, {swap("", path60)}, sets(8)} {
		checkNotSent(t, l, prefix("/a"), good(), api.ErrNone)
		checkNotSent(t, l, exact("/a/b"), good(), api.ErrNone)
	}
}

// TestAwayHosts: a request's host is as it is, even if it is no name.
func TestAwayHosts(t *testing.T) {
	for _, host := range []string{"", "A.Test:81", "é\xff", " ", endless} {
		r := good()
		r.Host = host
		if got, e := filter.Away([]api.Filter{away("", 81, "/x")}, prefix("/a"), r, false); got.To != "http://"+host+":81/x/b" || e != api.OK {
			t.Errorf("Away of the host %.80q: %.80q, %d", host, got.To, e)
		}
		if got, e := filter.Away([]api.Filter{away("b", 81, "/x")}, prefix("/a"), r, false); got.To != "http://b:81/x/b" || e != api.OK {
			t.Errorf("Away of the host %.80q, to b: %.80q, %d", host, got.To, e)
		}
		for _, l := range [][]api.Filter{nil, {swap("", "/x")}} {
			if got, e := filter.Do(l, prefix("/a"), r); got.Host != host || e != api.OK {
				t.Errorf("Do of the host %.80q: %.80q, %d", host, got.Host, e)
			}
		}
	}
}

func TestAwayPorts(t *testing.T) {
	for n := range 65536 {
		for _, tls := range []bool{false, true} {
			l := []api.Filter{away("b", n, "")}
			got, e := filter.Away(l, prefix("/"), good(), tls)
			if want, wantErr := awayByWords(l, prefix("/"), good(), tls); got != want || e != wantErr {
				t.Fatalf("Away to port %d, %t: %v, %d", n, tls, got, e)
			}
		}
	}
}

// few is filters, some of which may not be beside each other, and one that may not be at all.
func few() []api.Filter {
	return []api.Filter{
		set("x", "1"), set("X", "2"), set("y", "3"), add("x", "4"), add("Y", ""), drop("x"), drop("X"), drop("z"),
		away("", 0, ""), away("b", 443, "/x"), awayWhole("", 80, "/x/"), swap("b", ""), swap("", "/"), swap("", "/x"), swapWhole("c", "/y/"), {Kind: 6},
	}
}

// shortLists is all lists of at most n of these filters.
func shortLists(of []api.Filter, n int) [][]api.Filter {
	out := [][]api.Filter{nil}
	last := out
	for range n {
		var next [][]api.Filter
		for _, l := range last {
			for _, f := range of {
				next = append(next, append(slices.Clone(l), f))
			}
		}
		out = append(out, next...)
		last = next
	}
	return out
}

func TestShortLists(t *testing.T) {
	requests := []api.Request{
		good(),
		{Path: "/"},
		{Host: "h", Path: "/a", Head: list("x", "1", "Z", "2", "X", "3", "y", "4", "x", "5")},
		{Host: "h", Path: "/a/", Head: append(many(28), list("z", "1", "Z", "2")...)},
		{Host: "h", Path: "/ab", Head: many(31)},
	}
	asked := []api.Path{prefix("/"), prefix("/a"), exact("/a"), exact("/a/b"), {}}
	done := map[api.Errno]int{}
	for _, l := range shortLists(few(), 3) {
		for _, r := range requests {
			for _, p := range asked {
				check(t, l, p, r)
				_, e := filter.Do(l, p, r)
				done[e]++
			}
		}
	}
	if done[api.OK] == 0 || done[api.ErrArg] == 0 || done[api.ErrLarge] == 0 {
		t.Errorf("so many of each error: %v", done)
	}
}

// What follows from the promises.

// TestOtherFieldsStay: what stands in the head under names that no filter names stays, in order.
func TestOtherFieldsStay(t *testing.T) {
	head := list("a", "1", "x", "2", "A", "3", "b", "", "X", "4", "xx", "5", "y", "6", "a", "7")
	for _, l := range shortLists(few(), 3) {
		r := api.Request{Host: "h", Path: "/a/b", Head: slices.Clone(head)}
		got, e := filter.Do(l, prefix("/a"), r)
		if e != api.OK {
			continue
		}
		named := func(p api.Pair) bool {
			return slices.ContainsFunc(l, func(f api.Filter) bool { return f.Name != "" && pairs.Same(f.Name, p.Name) })
		}
		if before, then := slices.DeleteFunc(slices.Clone(head), named), slices.DeleteFunc(slices.Clone(got.Head), named); !slices.Equal(before, then) {
			t.Fatalf("Do(%+v): of other names there are %v, and there were %v", l, then, before)
		}
		if got.Method != r.Method || !slices.Equal(got.Query, r.Query) {
			t.Fatalf("Do(%+v): %+v", l, got)
		}
	}
}

// TestSentByNoField: whatever the head has, and whatever the filters do to it, a request is sent to one place.
func TestSentByNoField(t *testing.T) {
	heads := [][]api.Pair{nil, {}, list("Host", "c.test"), list("host", "c", "X", "1", "x", "2"), many(30), many(31), make([]api.Pair, 1000), list("\xff", endless)}
	for _, l := range shortLists(few(), 2) {
		for _, tls := range []bool{false, true} {
			want, wantErr := filter.Away(l, prefix("/a"), good(), tls)
			for i, head := range heads {
				r := good()
				r.Head = head
				if got, e := filter.Away(l, prefix("/a"), r, tls); got != want || e != wantErr {
					t.Fatalf("Away(%+v) with head %d: %v, %d, and was %v, %d", l, i, got, e, want, wantErr)
				}
			}
			r := good()
			r.Method, r.Query = "", many(100)
			if got, e := filter.Away(l, prefix("/a"), r, tls); got != want || e != wantErr {
				t.Fatalf("Away(%+v) with another method and query: %v, %d, and was %v, %d", l, got, e, want, wantErr)
			}
		}
	}
}

// cut is the first n pairs: what stands behind them is not the list's own.
func cut(l []api.Pair, n int) []api.Pair { return l[:min(n, len(l))] }

func TestArgumentsStayAsTheyWere(t *testing.T) {
	for n := range 5 {
		for _, filters := range append(shortLists(few(), 2), wrongLists()[:17]...) {
			kept := slices.Clone(filters)
			whole, keptRequest := good(), good()
			r := whole
			r.Head, r.Query = cut(whole.Head, n), cut(whole.Query, n)
			for _, p := range []api.Path{prefix("/a"), exact("/a/b"), {}} {
				for _, f := range filters {
					filter.May(f)
				}
				filter.All(filters)
				filter.Do(filters, p, r)
				filter.Away(filters, p, r, n%2 == 0)
			}
			if !slices.Equal(filters, kept) || !same(whole, keptRequest) {
				t.Fatalf("of %d pairs: what was handed in is changed: %v, %+v", n, filters, whole)
			}
		}
	}
}

// TestAnswersAreNew: what a caller does to an answer, he does to nothing that was handed in, and the other way round.
func TestAnswersAreNew(t *testing.T) {
	for _, l := range [][]api.Filter{nil, {set("x", "1")}, {set("z", "1")}, {add("z", "1")}, {drop("x")}, {drop("z")}, {away("", 0, "")}, {swap("b", "/x")}} {
		r := good()
		got, e := filter.Do(l, prefix("/a"), r)
		want, _ := doByWords(l, prefix("/a"), good())
		if e != api.OK {
			t.Fatalf("Do(%+v): %d", l, e)
		}
		for i := range r.Head {
			r.Head[i].Val = "changed"
		}
		for i := range r.Query {
			r.Query[i].Val = "changed"
		}
		if !same(got, want) {
			t.Errorf("Do(%+v): the answer changed with what was handed in: %+v", l, got)
		}
		r = good()
		got, _ = filter.Do(l, prefix("/a"), r)
		for i := range got.Head {
			got.Head[i].Val = "changed"
		}
		for i := range got.Query {
			got.Query[i].Val = "changed"
		}
		_, _ = append(got.Head, api.Pair{Name: "more"}), append(got.Query, api.Pair{Name: "more"})
		if !same(r, good()) {
			t.Errorf("Do(%+v): what was handed in changed with the answer: %+v", l, r)
		}
	}
}

// TestOnceMore: what was asked in between has nothing to do with what is answered.
func TestOnceMore(t *testing.T) {
	lists := shortLists(few(), 2)
	l := []api.Filter{set("x", "1"), add("z", "2"), drop("y"), swap("b", "/x")}
	for _, other := range lists {
		filter.Do(other, prefix("/"), api.Request{Path: "/", Head: many(3)})
		filter.Away(other, prefix("/"), api.Request{Path: "/"}, true)
		check(t, l, prefix("/a"), good())
	}
}

// FuzzFilter holds the calls against the words at whatever texts and numbers: none panics, and what they answer fits together.
func FuzzFilter(f *testing.F) {
	f.Add(1, "x", "1", "", 0, "", false, 0, 2, "/a", "/a/b", uint8(3))
	f.Add(4, "", "", "b.test", 443, "/x", false, 301, 2, "/", "/", uint8(31))
	f.Add(5, "", "", "b", 0, "/x/", true, 0, 1, "/a", "/a", uint8(30))
	f.Add(-1, "\xff", " ", "*.a", 65536, path61, true, 303, 0, "", "/ ", uint8(255))
	f.Fuzz(func(t *testing.T, kind int, name, val, host string, port int, to string, whole bool, code, asked int, begin, s string, n uint8) {
		one := api.Filter{Kind: kind, Name: name, Val: val, Host: host, Port: port, Path: to, Whole: whole, Code: code}
		if filter.May(one) != mayByWords(one) {
			t.Errorf("May(%+q) is %t", fmt.Sprint(one), filter.May(one))
		}
		r := api.Request{Method: name, Host: host, Path: s, Head: append(many(int(n)), list(name, val, strings.ToUpper(name), s)...), Query: list(name, val)}
		lists := [][]api.Filter{
			nil, {one}, {one, one}, {drop("n1"), one, set("n2", "1")},
			{set(name, val), add(name, val), drop("n1"), away(host, port, to)},
			{drop(name), add("x", val), swap(host, to)},
			{awayWhole(host, port, to)}, {swapWhole(host, to), one},
		}
		for _, l := range lists {
			for _, p := range []api.Path{{Kind: asked, Val: begin}, prefix(begin), exact(s), prefix("/")} {
				check(t, l, p, r)
			}
		}
	})
}
