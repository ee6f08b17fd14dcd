package object_test

import (
	"fmt"
	"math"
	"reflect"
	"slices"
	"strings"
	"testing"

	"toll/api"
	"toll/object"
)

// Texts of the edges that the limits name.
var (
	label20 = strings.Repeat("a", api.MaxLabel)
	label21 = strings.Repeat("a", api.MaxLabel+1)
	name60  = strings.Repeat("abcde.", 9) + "abcdef"
	name61  = strings.Repeat("abcde.", 9) + "abcdefg"
	endless = strings.Repeat("a", 1<<20)
)

// Texts that are labels; that are names, and no labels; and that are neither.
var (
	labels  = []string{"a", "z", "0", "9", "web", "a-b", "a--b", label20}
	dotted  = []string{"a.b", "1.2.3", "shop.test", label20 + "." + label20, name60}
	noNames = []string{".", "a.", ".a", "a..b", "-", "-a", "a-", "a.-b", "a-.b", "A", "aB", "a b", " a", "a ", " ", "a_b", "/", "a/b", "*", "*.a", "é", "\xff", "a\x00", "\n", label21, "a." + label21, name61, endless}
)

// names is all texts that are names.
var names = slices.Concat(labels, dotted)

var kinds = []int{api.ClassK, api.SpaceK, api.ServiceK, api.SecretK, api.GatewayK, api.RouteK, api.GrantK}

// noKinds are numbers of no kind of objects.
var noKinds = []int{0, 8, 9, -1, -5, -7, 1 << 32, 1<<32 + 1, 1<<32 + 5, -1<<32 + 6, 256 + 1, 256 + 7, math.MaxInt, math.MinInt}

// Ports that may be, and that no port may be; 0 is told by each part on its own.
var (
	ports   = []int{1, 2, 80, 443, 1000, 1001, 65534, 65535}
	noPorts = []int{-1, -80, -65535, 65536, 65537, 1 << 16, 1<<16 + 80, 1<<32 + 80, -1<<32 + 80, math.MaxInt, math.MinInt}
)

func ref(kind int, space, name string) api.Ref {
	return api.Ref{Kind: kind, Space: space, Name: name}
}

// refOf is a ref of a kind that may be.
func refOf(kind int) api.Ref {
	if kind == api.ClassK || kind == api.SpaceK {
		return ref(kind, "", "x")
	}
	return ref(kind, "web", "x")
}

// least is an object of a kind that has just what it must.
func least(kind int) api.Object {
	o := api.Object{Ref: refOf(kind)}
	switch kind {
	case api.ServiceK:
		o.Ports = []int{80}
	case api.GatewayK:
		o.Class, o.Listeners = "c", []api.Listener{{Name: "a", Port: 80}}
	case api.GrantK:
		o.From, o.To = []api.Side{{Kind: api.RouteK, Space: "app"}}, []api.Side{{Kind: api.ServiceK}}
	}
	return o
}

// full is an object of a kind that has of each part as much as it may.
func full(kind int) api.Object {
	o := api.Object{Ref: refOf(kind)}
	switch kind {
	case api.ClassK, api.SecretK:
		o.Good = true
	case api.SpaceK:
		for i := range 8 {
			o.Labels = append(o.Labels, api.Pair{Name: fmt.Sprint("n", i), Val: fmt.Sprint("v", i)})
		}
	case api.ServiceK:
		o.Ports = []int{1, 2, 80, 81, 443, 8080, 65534, 65535}
	case api.GatewayK:
		o.Class, o.Listeners = "c.test", fullListeners()
	case api.RouteK:
		o.Parents, o.Hosts, o.Rules = fullParents(), []string{"a.test", "*.test", "b.test", "*.a.test"}, fullRules()
	case api.GrantK:
		for i := range 4 {
			o.From = append(o.From, api.Side{Kind: i + 4, Space: fmt.Sprint("s", i)})
			o.To = append(o.To, api.Side{Kind: i + 1, Name: fmt.Sprint("n", i)})
		}
	}
	return o
}

func fullListeners() []api.Listener {
	var out []api.Listener
	for i := range 8 {
		l := api.Listener{Name: fmt.Sprint("l", i), Port: 80 + i, Host: fmt.Sprint("h", i, ".test"), From: i % 2}
		if i%2 == 1 {
			l.TLS, l.Cert = true, ref(api.SecretK, fmt.Sprint("s", i), fmt.Sprint("c", i))
		}
		if i >= 4 {
			l.From = api.SomeSpaces
			for k := range 8 {
				l.Needs = append(l.Needs, api.Need{Kind: api.Is, Name: fmt.Sprint("n", k), Vals: []string{"1", "2"}})
			}
		}
		out = append(out, l)
	}
	return out
}

func fullParents() []api.Parent {
	var out []api.Parent
	for i := range 4 {
		out = append(out, api.Parent{Space: fmt.Sprint("s", i), Name: fmt.Sprint("g", i), Section: fmt.Sprint("l", i), Port: 80 + i})
	}
	return out
}

func fullRules() []api.Rule {
	var out []api.Rule
	for i := range 6 {
		var r api.Rule
		for k := range 4 {
			r.Matches = append(r.Matches, api.Match{
				Path:   api.Path{Kind: api.Prefix, Val: fmt.Sprint("/", i, "/", k)},
				Method: "GET",
				Head:   []api.Pair{{Name: "h", Val: "1"}, {Name: "i", Val: "2"}},
				Query:  []api.Pair{{Name: "q", Val: "1"}, {Name: "r", Val: "2"}},
			})
			r.Backends = append(r.Backends, api.Backend{Ref: ref(1+(i+k)%7, fmt.Sprint("s", k), fmt.Sprint("b", i)), Port: 80 + k, Weight: k})
		}
		for k := range 8 {
			r.Filters = append(r.Filters, api.Filter{Kind: api.SetF, Name: fmt.Sprint("f", k), Val: "1"})
		}
		out = append(out, r)
	}
	return out
}

// clone is an object that has no list in common with another one.
func clone(o api.Object) api.Object {
	return deep(reflect.ValueOf(o)).Interface().(api.Object)
}

// deep is a value with lists of its own, all the way down.
func deep(v reflect.Value) reflect.Value {
	out := reflect.New(v.Type()).Elem()
	out.Set(v)
	switch {
	case v.Kind() == reflect.Slice && !v.IsNil():
		out.Set(reflect.MakeSlice(v.Type(), v.Len(), v.Len()))
		for i := range v.Len() {
			out.Index(i).Set(deep(v.Index(i)))
		}
	case v.Kind() == reflect.Struct:
		for i := range v.NumField() {
			out.Field(i).Set(deep(v.Field(i)))
		}
	}
	return out
}

// brief is a value's text, cut where it would fill the screen.
func brief(v any) string { return fmt.Sprintf("%.400q", fmt.Sprintf("%+v", v)) }

func TestEdges(t *testing.T) {
	if len(label20) != 20 || len(label21) != 21 || len(name60) != 60 || len(name61) != 61 {
		t.Error("the edges' texts are others than they should")
	}
	if api.MaxListeners != 8 || api.MaxRules != 6 || api.MaxParts != 4 || api.MaxWeight != 1000 || api.MaxLabels != 8 {
		t.Error("the limits are others than they should")
	}
	if !slices.Equal(kinds, []int{1, 2, 3, 4, 5, 6, 7}) || api.OwnSpace != 0 || api.AllSpaces != 1 || api.SomeSpaces != 2 {
		t.Error("the kinds' numbers are others than they should")
	}
}

func TestExamples(t *testing.T) {
	g := least(api.GatewayK)
	if !object.May(g) {
		t.Error("a gateway with a listener may not be")
	}
	for _, none := range [][]api.Listener{nil, {}} {
		g.Listeners = none
		if object.May(g) {
			t.Error("example 1: a gateway without listeners may be")
		}
	}
	r := api.Object{
		Ref:     ref(api.RouteK, "web", "r"),
		Parents: []api.Parent{{Name: "gw"}},
		Rules:   []api.Rule{{Backends: []api.Backend{{Ref: ref(api.ServiceK, "app", "api")}}}},
	}
	want := []api.Ref{ref(api.SpaceK, "", "web"), ref(api.ServiceK, "app", "api"), ref(api.GatewayK, "web", "gw")}
	if got := object.Refs(r); !slices.Equal(got, want) {
		t.Errorf("example 2: %v", got)
	}
	if s, err := object.Text(ref(api.RouteK, "web", "a")); s != "6 web/a" || err != api.OK {
		t.Errorf("example 3: %q, %d", s, err)
	}
}

// P9.1: MayRef.

func TestMayRef(t *testing.T) {
	for _, kind := range kinds {
		ownSpace := kind != api.ClassK && kind != api.SpaceK
		for _, name := range names {
			isLabel := slices.Contains(labels, name)
			if got := object.MayRef(ref(kind, "", name)); got != (!ownSpace && (kind == api.ClassK || isLabel)) {
				t.Errorf("MayRef of kind %d, no space, %q is %t", kind, name, got)
			}
			for _, space := range labels {
				if got := object.MayRef(ref(kind, space, name)); got != ownSpace {
					t.Errorf("MayRef of kind %d, %q, %q is %t", kind, space, name, got)
				}
			}
			for _, space := range slices.Concat(dotted, noNames) {
				if object.MayRef(ref(kind, space, name)) {
					t.Errorf("MayRef of kind %d, %.80q, %q is true", kind, space, name)
				}
			}
		}
		for _, name := range append([]string{""}, noNames...) {
			for _, space := range []string{"", "web"} {
				if object.MayRef(ref(kind, space, name)) {
					t.Errorf("MayRef of kind %d, %q, %.80q is true", kind, space, name)
				}
			}
		}
	}
	for _, kind := range noKinds {
		for _, r := range []api.Ref{{Kind: kind}, ref(kind, "", "a"), ref(kind, "web", "a"), ref(kind, "web", "a.b")} {
			if object.MayRef(r) {
				t.Errorf("MayRef(%v) is true", r)
			}
		}
	}
}

// P9.1 and P9.4: Order.

func TestOrder(t *testing.T) {
	for _, c := range []struct {
		a, b api.Ref // a comes first
	}{
		{ref(1, "a", "a"), ref(2, "a", "a")},
		{ref(6, "a", "a"), ref(7, "a", "a")},
		{ref(1, "z", "z"), ref(2, "a", "a")}, // the kind ahead of all
		{ref(1, "z", "z"), ref(2, "", "")},
		{ref(9, "a", "a"), ref(10, "a", "a")}, // by numbers, not by digits
		{ref(-1, "a", "a"), ref(0, "a", "a")},
		{ref(-7, "a", "a"), ref(1, "a", "a")},
		{ref(math.MinInt, "a", "a"), ref(math.MaxInt, "a", "a")}, // whose difference is no int
		{ref(math.MinInt, "", ""), ref(1, "", "")},
		{ref(1, "", ""), ref(1<<32, "", "")},
		{ref(6, "a", "a"), ref(6, "b", "a")},
		{ref(6, "a", "z"), ref(6, "b", "a")}, // the space ahead of the name
		{ref(6, "", "z"), ref(6, "a", "a")},
		{ref(6, "a", "z"), ref(6, "aa", "a")},
		{ref(6, "aa", "z"), ref(6, "b", "a")}, // by octets, not by sizes
		{ref(6, "10", "a"), ref(6, "9", "a")},
		{ref(6, "a-b", "a"), ref(6, "a0", "a")}, // by octets: not as the key's text, where / stands behind -
		{ref(6, "a", "z"), ref(6, "a-b", "a")},
		{ref(6, "A", "a"), ref(6, "a", "a")},
		{ref(6, "a", "a"), ref(6, "a", "b")},
		{ref(6, "a", ""), ref(6, "a", "a")},
		{ref(6, "a", "a"), ref(6, "a", "aa")},
		{ref(6, "a", "aa"), ref(6, "a", "b")},
		{ref(6, "a", "a-b"), ref(6, "a", "a.b")},
		{ref(6, "a", "a.b"), ref(6, "a", "a0b")},
		{ref(6, "a", "Z"), ref(6, "a", "a")},
		{ref(6, "a", "z"), ref(6, "a", "é")},
		{ref(6, "a", "é"), ref(6, "a", "\xff")},
		{ref(6, "a", "a"), ref(6, "a", "a\x00")},
		{ref(6, name60, name60[:59]), ref(6, name60, name60)},
	} {
		if object.Order(c.a, c.b) != -1 || object.Order(c.b, c.a) != 1 {
			t.Errorf("Order of %v and %v: %d, the other way round %d", c.a, c.b, object.Order(c.a, c.b), object.Order(c.b, c.a))
		}
		if object.Order(c.a, c.a) != 0 || object.Order(c.b, c.b) != 0 {
			t.Errorf("Order of %v, or %v, and itself is not 0", c.a, c.b)
		}
	}
}

// TestOrderIsAnOrder: each ref is the same as itself alone, no two come first both ways, and it goes on from one to the next.
func TestOrderIsAnOrder(t *testing.T) {
	var all []api.Ref
	for _, kind := range []int{math.MinInt, 0, 1, 6, math.MaxInt} {
		for _, space := range []string{"", "a", "a-b", "b"} {
			for _, name := range []string{"", "a", "a.b", "B"} {
				all = append(all, ref(kind, space, name))
			}
		}
	}
	for _, a := range all {
		for _, b := range all {
			ab := object.Order(a, b)
			if ab != -object.Order(b, a) || (ab == 0) != (a == b) || ab < -1 || ab > 1 {
				t.Fatalf("Order of %v and %v: %d, the other way round %d", a, b, ab, object.Order(b, a))
			}
			for _, c := range all {
				if ab <= 0 && object.Order(b, c) <= 0 && object.Order(a, c) > 0 {
					t.Fatalf("Order of %v, %v and %v does not go on", a, b, c)
				}
			}
		}
	}
}

// P9.3: Text and Parse.

func TestText(t *testing.T) {
	for _, c := range []struct {
		r    api.Ref
		want string
	}{
		{ref(api.ClassK, "", "ours"), "1 /ours"},
		{ref(api.ClassK, "", "a.b"), "1 /a.b"},
		{ref(api.SpaceK, "", "web"), "2 /web"},
		{ref(api.ServiceK, "web", "api"), "3 web/api"},
		{ref(api.SecretK, "web", "cert"), "4 web/cert"},
		{ref(api.GatewayK, "a-b", "gw"), "5 a-b/gw"},
		{ref(api.RouteK, "web", "a"), "6 web/a"},
		{ref(api.RouteK, "web", "a.b"), "6 web/a.b"},
		{ref(api.GrantK, label20, name60), "7 " + label20 + "/" + name60},
		{ref(api.ClassK, "", name60), "1 /" + name60},
		{ref(api.SpaceK, "", label20), "2 /" + label20},
	} {
		if s, err := object.Text(c.r); s != c.want || err != api.OK {
			t.Errorf("Text(%v): %q, %d", c.r, s, err)
		}
		if r, err := object.Parse(c.want); r != c.r || err != api.OK {
			t.Errorf("Parse(%q): %v, %d", c.want, r, err)
		}
	}
}

// TestTextAndBack: a ref that may be is read as it was written, and one that may not be is not written.
func TestTextAndBack(t *testing.T) {
	texts := slices.Concat([]string{""}, names, noNames)
	seen := map[string]api.Ref{}
	for _, kind := range slices.Concat(kinds, noKinds) {
		for _, space := range texts {
			for _, name := range texts {
				r := ref(kind, space, name)
				s, err := object.Text(r)
				if !object.MayRef(r) {
					if s != "" || err != api.ErrArg {
						t.Errorf("Text(%s): %.80q, %d", brief(r), s, err)
					}
					continue
				}
				if s != fmt.Sprintf("%d %s/%s", kind, space, name) || err != api.OK {
					t.Errorf("Text(%v): %q, %d", r, s, err)
				}
				if got, err := object.Parse(s); got != r || err != api.OK {
					t.Errorf("Parse(%q): %v, %d", s, got, err)
				}
				if other, there := seen[s]; there {
					t.Errorf("%v and %v have one text", r, other)
				}
				seen[s] = r
			}
		}
	}
	if len(seen) == 0 {
		t.Error("no ref may be")
	}
}

func TestParseOfNoText(t *testing.T) {
	for _, s := range []string{
		"", " ", "/", " /", "6", "6 ", "6 /", "6 web", "6 web/", "6 /a", "6web/a", "6/a", " 6 web/a", "6  web/a", "6 web/a ", "6 web/a\n", "6\tweb/a",
		"6 web/a/b", "6 web//a", "6 web /a", "6 web/ a", "6 a.b/a", "6 Web/a", "6 web/A", "6 web/a.", "6 -/a", "web/a", "/a", "6-web/a",
		"0 /a", "0 web/a", "8 web/a", "9 web/a", "8 /a", "a web/a", ": web/a", "/ web/a", "\x06 web/a", "\x00 /a", "\xff web/a", "é web/a",
		"06 web/a", "66 web/a", "16 web/a", "+6 web/a", "-6 web/a", "6. web/a", "6.0 web/a", "0x6 web/a", "1e0 /a", "४ web/a",
		"1 web/a", "1 web/", "1 /", "1 /A", "1a", "1 a", "2 web/a", "2 /a.b", "2 /" + label21, "2 /", "2 a", "01 /a", "10 /a", "1  /a",
		"6 " + label21 + "/a", "6 web/" + name61, "6 " + name60 + "/a", "1 /" + name61, "6 web/" + endless, endless, "6 " + endless, strings.Repeat(" ", 1<<20), strings.Repeat("6 ", 1<<20), "6 " + strings.Repeat("/", 1<<20),
	} {
		if r, err := object.Parse(s); err != api.ErrForm || r != (api.Ref{}) {
			t.Errorf("Parse(%.80q): %v, %d", s, r, err)
		}
	}
}

// isText: is it a kind's digit, a blank, and what the kind asks of a space, a slash and a name?
func isText(s string) bool {
	for _, kind := range kinds {
		for i := range len(s) {
			if i < 2 || s[i] != '/' {
				continue
			}
			if r := ref(kind, s[2:i], s[i+1:]); object.MayRef(r) && s == fmt.Sprintf("%d %s/%s", kind, r.Space, r.Name) {
				return true
			}
		}
	}
	return false
}

// checkParse: just the refs' texts are read, and each as it was written.
func checkParse(t *testing.T, s string) bool {
	t.Helper()
	r, err := object.Parse(s)
	if !isText(s) {
		if err != api.ErrForm || r != (api.Ref{}) {
			t.Errorf("Parse(%.80q): %v, %d", s, r, err)
		}
		return false
	}
	if back, e := object.Text(r); err != api.OK || !object.MayRef(r) || back != s || e != api.OK {
		t.Errorf("Parse(%.80q): %v, %d, written %q, %d", s, r, err, back, e)
	}
	return true
}

func TestParseShortTexts(t *testing.T) {
	octets := "0126789 /a.-"
	read := 0
	last := []string{""}
	for range 5 {
		var next []string
		for _, s := range last {
			for i := range len(octets) {
				next = append(next, s+octets[i:i+1])
			}
		}
		for _, s := range next {
			if checkParse(t, s) {
				read++
			}
		}
		last = next
	}
	if read == 0 {
		t.Error("no text was read")
	}
}

// TestParseNearTexts has texts of refs with one octet more, less, or another one.
func TestParseNearTexts(t *testing.T) {
	for _, s := range []string{"1 /a.b", "2 /web", "3 web/api", "6 a-b/c.d", "7 " + label20 + "/" + name60, "1 /" + name60, "2 /" + label20} {
		for i := range len(s) + 1 {
			for c := range 256 {
				octet := string([]byte{byte(c)})
				checkParse(t, s[:i]+octet+s[i:])
				if i < len(s) {
					checkParse(t, s[:i]+octet+s[i+1:])
				}
			}
			checkParse(t, s[:i])
			checkParse(t, s[i:])
			if i < len(s) {
				checkParse(t, s[:i]+s[i+1:])
			}
		}
	}
}
