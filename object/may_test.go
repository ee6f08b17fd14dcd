package object_test

import (
	"fmt"
	"math"
	"reflect"
	"slices"
	"strings"
	"testing"

	"toll/api"
	"toll/dns"
	"toll/filter"
	"toll/host"
	"toll/label"
	"toll/object"
	"toll/rule"
)

// part is a part of objects: which kinds may have it, which must, and how it is set and taken away.
type part struct {
	name      string
	may, must []int
	set, drop func(o *api.Object)
	hollow    func(o *api.Object) // a list that is there, without elements
}

func parts() []part {
	return []part{
		{"Good", []int{1, 4}, nil, func(o *api.Object) { o.Good = true }, func(o *api.Object) { o.Good = false }, nil},
		{"Labels", []int{2}, nil, func(o *api.Object) { o.Labels = []api.Pair{{Name: "a"}} }, func(o *api.Object) { o.Labels = nil }, func(o *api.Object) { o.Labels = []api.Pair{} }},
		{"Ports", []int{3}, []int{3}, func(o *api.Object) { o.Ports = []int{80} }, func(o *api.Object) { o.Ports = nil }, func(o *api.Object) { o.Ports = []int{} }},
		{"Class", []int{5}, []int{5}, func(o *api.Object) { o.Class = "c" }, func(o *api.Object) { o.Class = "" }, nil},
		{"Listeners", []int{5}, []int{5}, func(o *api.Object) { o.Listeners = []api.Listener{{Name: "a", Port: 80}} }, func(o *api.Object) { o.Listeners = nil }, func(o *api.Object) { o.Listeners = []api.Listener{} }},
		{"Parents", []int{6}, nil, func(o *api.Object) { o.Parents = []api.Parent{{Name: "gw"}} }, func(o *api.Object) { o.Parents = nil }, func(o *api.Object) { o.Parents = []api.Parent{} }},
		{"Hosts", []int{6}, nil, func(o *api.Object) { o.Hosts = []string{"a.test"} }, func(o *api.Object) { o.Hosts = nil }, func(o *api.Object) { o.Hosts = []string{} }},
		{"Rules", []int{6}, nil, func(o *api.Object) { o.Rules = make([]api.Rule, 1) }, func(o *api.Object) { o.Rules = nil }, func(o *api.Object) { o.Rules = []api.Rule{} }},
		{"From", []int{7}, []int{7}, func(o *api.Object) { o.From = []api.Side{{Kind: 6, Space: "app"}} }, func(o *api.Object) { o.From = nil }, func(o *api.Object) { o.From = []api.Side{} }},
		{"To", []int{7}, []int{7}, func(o *api.Object) { o.To = []api.Side{{Kind: 3}} }, func(o *api.Object) { o.To = nil }, func(o *api.Object) { o.To = []api.Side{} }},
	}
}

func TestMayOfEachKind(t *testing.T) {
	for _, kind := range kinds {
		if !object.May(least(kind)) {
			t.Errorf("kind %d with just what it must have may not be", kind)
		}
		if !object.May(full(kind)) {
			t.Errorf("kind %d with as much as it may have may not be", kind)
		}
	}
	if object.May(api.Object{}) {
		t.Error("an object that is zero may be")
	}
}

// TestMayRefOfObjects: an object whose ref may not be may not be, whatever else it has.
func TestMayRefOfObjects(t *testing.T) {
	for _, kind := range kinds {
		for _, space := range slices.Concat([]string{""}, labels, dotted, noNames) {
			for _, name := range slices.Concat([]string{""}, names, noNames) {
				for _, o := range []api.Object{least(kind), full(kind)} {
					o.Ref.Space, o.Ref.Name = space, name
					if got := object.May(o); got != object.MayRef(o.Ref) {
						t.Errorf("May of %s is %t", brief(o.Ref), got)
					}
				}
			}
		}
		for _, none := range noKinds {
			for _, o := range []api.Object{least(kind), full(kind)} {
				o.Ref.Kind = none
				if object.May(o) {
					t.Errorf("May of kind %d, with all of kind %d, is true", none, kind)
				}
			}
		}
	}
}

func TestMayPartsOfOtherKinds(t *testing.T) {
	for _, kind := range kinds {
		for _, p := range parts() {
			for _, o := range []api.Object{least(kind), full(kind)} {
				if p.set(&o); object.May(o) != slices.Contains(p.may, kind) {
					t.Errorf("May of kind %d with %s is %t", kind, p.name, object.May(o))
				}
				if p.drop(&o); object.May(o) == slices.Contains(p.must, kind) {
					t.Errorf("May of kind %d without %s is %t", kind, p.name, object.May(o))
				}
				// A list without elements is none.
				if p.hollow == nil {
					continue
				}
				if p.hollow(&o); object.May(o) == slices.Contains(p.must, kind) {
					t.Errorf("May of kind %d with no %s is %t", kind, p.name, object.May(o))
				}
			}
		}
	}
}

// TestMayAllSetsOfParts has objects of each kind and of none with all sets of parts.
func TestMayAllSetsOfParts(t *testing.T) {
	all := parts()
	for kind := 0; kind <= 8; kind++ {
		for set := range 1 << len(all) {
			o := api.Object{Ref: refOf(kind)}
			want := 1 <= kind && kind <= 7
			for i, p := range all {
				has := set>>i&1 == 1
				if has {
					p.set(&o)
				}
				if has && !slices.Contains(p.may, kind) || !has && slices.Contains(p.must, kind) {
					want = false
				}
			}
			if object.May(o) != want {
				t.Fatalf("May of %s is %t", brief(o), !want)
			}
		}
	}
}

// TestMayFullPartsOfOtherKinds has objects of a kind with all that another kind may have.
func TestMayFullPartsOfOtherKinds(t *testing.T) {
	good := []int{api.ClassK, api.SecretK}
	mustHave := []int{api.ServiceK, api.GatewayK, api.GrantK}
	for _, kind := range kinds {
		for _, other := range kinds {
			for _, o := range []api.Object{least(other), full(other)} {
				o.Ref = refOf(kind)
				bare := reflect.DeepEqual(o, api.Object{Ref: o.Ref})
				want := kind == other || slices.Contains(good, kind) && slices.Contains(good, other) || bare && !slices.Contains(mustHave, kind)
				if object.May(o) != want {
					t.Errorf("May of kind %d with all of kind %d is %t", kind, other, !want)
				}
			}
		}
	}
}

// P9.1: spaces.

func TestMayLabels(t *testing.T) {
	for _, l := range [][]api.Pair{
		nil, {}, {{Name: "a"}}, {{Name: "a", Val: "1"}, {Name: "b"}}, {{Name: "b"}, {Name: "a"}}, {{Name: "a"}, {Name: "a"}}, {{}}, {{Name: "A"}}, {{Name: "a", Val: "a.b"}},
		full(api.SpaceK).Labels, append(full(api.SpaceK).Labels, api.Pair{Name: "n8"}), make([]api.Pair, 1<<16),
	} {
		o := least(api.SpaceK)
		o.Labels = l
		if object.May(o) != label.May(l) {
			t.Errorf("May of the labels %s is %t", brief(l), object.May(o))
		}
	}
}

// P9.1: services.

func mayPorts(l []int) bool {
	o := least(api.ServiceK)
	o.Ports = l
	return object.May(o)
}

func TestMayPorts(t *testing.T) {
	for _, port := range ports {
		if !mayPorts([]int{port}) {
			t.Errorf("May of the port %d is false", port)
		}
	}
	for _, port := range append([]int{0}, noPorts...) {
		for _, l := range [][]int{{port}, {port, 80}, {1, port}, {1, port, 65535}, {1, 2, 3, 4, 5, 6, 7, port}} {
			if mayPorts(l) {
				t.Errorf("May of the ports %d is true", l)
			}
		}
	}
	for n := range 30 {
		var l []int
		for i := range n {
			l = append(l, 80+i)
		}
		if got := mayPorts(l); got != (1 <= n && n <= 8) {
			t.Errorf("May of %d ports is %t", n, got)
		}
	}
	for _, c := range []struct {
		l    []int
		want bool
	}{
		{[]int{1, 65535}, true},
		{[]int{80, 81}, true},
		{[]int{81, 80}, false},
		{[]int{80, 80}, false},
		{[]int{9, 80, 443}, true}, // by numbers, not by digits
		{[]int{443, 80, 9}, false},
		{[]int{80, 81, 80}, false},
		{[]int{80, 81, 81}, false},
		{[]int{80, 80, 81}, false},
		{[]int{1, 3, 2}, false},
		{[]int{2, 1, 3}, false},
		{[]int{3, 1, 2}, false},
		{make([]int, 8), false},
		{make([]int, 1<<20), false},
	} {
		if got := mayPorts(c.l); got != c.want {
			t.Errorf("May of the ports %s is %t", brief(c.l), got)
		}
	}
}

func TestMayPortsAtEachPlace(t *testing.T) {
	for i := range 8 {
		for k := range i {
			l := full(api.ServiceK).Ports
			l[i], l[k] = l[k], l[i]
			if mayPorts(l) {
				t.Errorf("May of the ports %d is true", l)
			}
			l = full(api.ServiceK).Ports
			l[i] = l[k]
			if mayPorts(l) {
				t.Errorf("May of the ports %d is true", l)
			}
			l = full(api.ServiceK).Ports
			l[k] = l[i]
			if mayPorts(l) {
				t.Errorf("May of the ports %d is true", l)
			}
		}
	}
}

// P9.1: gateways.

func TestMayClass(t *testing.T) {
	for _, o := range []api.Object{least(api.GatewayK), full(api.GatewayK)} {
		for _, name := range names {
			if o.Class = name; !object.May(o) {
				t.Errorf("May of the class %q is false", name)
			}
		}
		for _, name := range append([]string{""}, noNames...) {
			if o.Class = name; object.May(o) {
				t.Errorf("May of the class %.80q is true", name)
			}
		}
	}
}

// checkListener: may a gateway with that listener be just if it may, alone, and at each place among others?
func checkListener(t *testing.T, l api.Listener, want bool) {
	t.Helper()
	o := least(api.GatewayK)
	if o.Listeners[0] = l; object.May(o) != want {
		t.Errorf("May of the listener %s is %t", brief(l), !want)
	}
	for _, i := range []int{0, 3, 7} {
		o := full(api.GatewayK)
		if o.Listeners[i] = l; object.May(o) != want {
			t.Errorf("May of the listener %s at %d is %t", brief(l), i, !want)
		}
	}
}

// plainListener and tlsListener are listeners with just what they must have, of no name of others.
func plainListener() api.Listener { return api.Listener{Name: "x", Port: 80} }

func tlsListener() api.Listener {
	return api.Listener{Name: "x", Port: 443, TLS: true, Cert: ref(api.SecretK, "", "cert")}
}

func TestMayListener(t *testing.T) {
	for _, least := range []func() api.Listener{plainListener, tlsListener} {
		checkListener(t, least(), true)
		for _, name := range labels {
			l := least()
			l.Name = name
			checkListener(t, l, true)
		}
		for _, name := range slices.Concat([]string{""}, dotted, noNames) {
			l := least()
			l.Name = name
			checkListener(t, l, false)
		}
		for _, port := range ports {
			l := least()
			l.Port = port
			checkListener(t, l, true)
		}
		for _, port := range append([]int{0}, noPorts...) {
			l := least()
			l.Port = port
			checkListener(t, l, false)
		}
		for _, p := range patterns {
			l := least()
			l.Host = p
			checkListener(t, l, true)
		}
		for _, p := range noPatterns {
			l := least()
			l.Host = p
			checkListener(t, l, false)
		}
	}
	checkListener(t, api.Listener{}, false)
}

// Texts that are patterns, but for the empty one, and that are none.
var (
	patterns   = []string{"", "a", "a.test", "*.a", "*.test", "*.a.test", name60, "*." + name60[2:]}
	noPatterns = []string{"*", "*.", "*a", "**.a", "*.*.a", "a.*", "a.*.b", "A.test", "*.A", "a.", ".a", "*..a", "a b", "a:80", "\xff", " ", label21, name61, "*." + name60, endless}
)

func TestMayCert(t *testing.T) {
	cert := func(r api.Ref) api.Listener {
		l := tlsListener()
		l.Cert = r
		return l
	}
	for _, space := range append([]string{""}, labels...) {
		for _, name := range names {
			checkListener(t, cert(ref(api.SecretK, space, name)), true)
		}
	}
	for _, space := range slices.Concat(dotted, noNames) {
		checkListener(t, cert(ref(api.SecretK, space, "cert")), false)
	}
	for _, name := range append([]string{""}, noNames...) {
		checkListener(t, cert(ref(api.SecretK, "", name)), false)
		checkListener(t, cert(ref(api.SecretK, "web", name)), false)
	}
	for _, kind := range slices.Concat(kinds, noKinds) {
		if kind != api.SecretK {
			checkListener(t, cert(ref(kind, "", "cert")), false)
			checkListener(t, cert(ref(kind, "web", "cert")), false)
		}
	}
	checkListener(t, cert(api.Ref{}), false)
	// Without TLS there is none, not even a piece of one.
	for _, r := range []api.Ref{ref(api.SecretK, "", "cert"), ref(api.SecretK, "web", "cert"), {Kind: api.SecretK}, {Space: "web"}, {Name: "cert"}, {Kind: 8}, {Name: " "}} {
		l := plainListener()
		l.Cert = r
		checkListener(t, l, false)
	}
}

func TestMayFromOfListeners(t *testing.T) {
	has := []api.Need{{Kind: api.Has, Name: "team"}}
	for _, least := range []func() api.Listener{plainListener, tlsListener} {
		for _, from := range []int{0, 1, 2, 3, 4, -1, -2, 1 << 32, 1<<32 + 1, 1<<32 + 2, 258, math.MaxInt, math.MinInt} {
			for _, needs := range [][]api.Need{
				nil, {}, has, slices.Repeat(has, 8), slices.Repeat(has, 9), slices.Repeat(has, 1<<16),
				{{Kind: api.Is, Name: "a", Vals: []string{"1"}}, {Kind: api.Lacks, Name: "b"}},
				{{}}, {{Kind: 5, Name: "a"}}, {{Kind: api.Has, Name: "A"}}, {{Kind: api.Is, Name: "a"}}, {{Kind: api.Has, Name: "a", Vals: []string{"1"}}}, append(slices.Clone(has), api.Need{}),
			} {
				l := least()
				l.From, l.Needs = from, needs
				checkListener(t, l, (from == 0 || from == 1) && len(needs) == 0 || from == 2 && label.Needs(needs))
			}
		}
	}
}

func TestMayListenersCounts(t *testing.T) {
	many := func(n int) []api.Listener {
		var l []api.Listener
		for i := range n {
			l = append(l, api.Listener{Name: fmt.Sprint("l", i), Port: 80})
		}
		return l
	}
	for n := range 30 {
		o := least(api.GatewayK)
		if o.Listeners = many(n); object.May(o) != (1 <= n && n <= 8) {
			t.Errorf("May of %d listeners is %t", n, object.May(o))
		}
	}
	for _, l := range [][]api.Listener{make([]api.Listener, 1), make([]api.Listener, 8), make([]api.Listener, 1<<16), many(1 << 16)} {
		o := least(api.GatewayK)
		if o.Listeners = l; object.May(o) {
			t.Errorf("May of %d listeners is true", len(l))
		}
	}
	for i := range 8 {
		for k := range i {
			// One name twice, though all else is another one.
			o := full(api.GatewayK)
			if o.Listeners[i].Name = o.Listeners[k].Name; object.May(o) {
				t.Errorf("May of one name at %d and %d is true", i, k)
			}
			// All else the same, but the name.
			o = full(api.GatewayK)
			name := o.Listeners[i].Name
			o.Listeners[i] = o.Listeners[k]
			if o.Listeners[i].Name = name; !object.May(o) {
				t.Errorf("May of all but one name at %d and %d is false", i, k)
			}
			o = full(api.GatewayK)
			if o.Listeners[i], o.Listeners[k] = o.Listeners[k], o.Listeners[i]; !object.May(o) {
				t.Errorf("May of listeners at %d and %d for each other is false", i, k)
			}
		}
	}
}

// P9.1: routes.

// checkParent: may a route with that parent be just if it may, alone, and at each place among others?
func checkParent(t *testing.T, p api.Parent, want bool) {
	t.Helper()
	o := least(api.RouteK)
	if o.Parents = []api.Parent{p}; object.May(o) != want {
		t.Errorf("May of the parent %s is %t", brief(p), !want)
	}
	for i := range 4 {
		o := full(api.RouteK)
		if o.Parents[i] = p; object.May(o) != want {
			t.Errorf("May of the parent %s at %d is %t", brief(p), i, !want)
		}
	}
}

func TestMayParent(t *testing.T) {
	spaces := append([]string{""}, labels...)
	for _, space := range spaces {
		for _, section := range spaces {
			for _, port := range append([]int{0}, ports...) {
				checkParent(t, api.Parent{Space: space, Name: "gw", Section: section, Port: port}, true)
			}
		}
	}
	for _, name := range names {
		checkParent(t, api.Parent{Name: name}, true)
	}
	for _, name := range append([]string{""}, noNames...) {
		checkParent(t, api.Parent{Name: name}, false)
		checkParent(t, api.Parent{Space: "web", Name: name, Section: "a", Port: 80}, false)
	}
	for _, s := range slices.Concat(dotted, noNames) {
		checkParent(t, api.Parent{Space: s, Name: "gw"}, false)
		checkParent(t, api.Parent{Name: "gw", Section: s}, false)
	}
	for _, port := range noPorts {
		checkParent(t, api.Parent{Name: "gw", Port: port}, false)
	}
	checkParent(t, api.Parent{}, false)
}

func TestMayParentsCounts(t *testing.T) {
	for n := range 20 {
		o := least(api.RouteK)
		for i := range n {
			o.Parents = append(o.Parents, api.Parent{Name: fmt.Sprint("g", i)})
		}
		if object.May(o) != (n <= 4) {
			t.Errorf("May of %d parents is %t", n, object.May(o))
		}
	}
	for i := range 4 {
		for k := range i {
			o := full(api.RouteK)
			if o.Parents[i] = o.Parents[k]; object.May(o) {
				t.Errorf("May of one parent at %d and %d is true", i, k)
			}
			o = full(api.RouteK)
			if o.Parents[i], o.Parents[k] = o.Parents[k], o.Parents[i]; !object.May(o) {
				t.Errorf("May of parents at %d and %d for each other is false", i, k)
			}
			// Those that differ in one part alone are not the same.
			for part, change := range []func(p *api.Parent){
				func(p *api.Parent) { p.Space = "" }, func(p *api.Parent) { p.Name = "x" }, func(p *api.Parent) { p.Section = "" }, func(p *api.Parent) { p.Port = 0 },
			} {
				o = full(api.RouteK)
				o.Parents[i] = o.Parents[k]
				if change(&o.Parents[i]); !object.May(o) {
					t.Errorf("May of parents at %d and %d that differ in part %d is false", i, k, part)
				}
			}
		}
	}
	o := least(api.RouteK)
	// A space that is empty, and the route's own: not the same, part by part.
	if o.Parents = []api.Parent{{Name: "gw"}, {Space: o.Ref.Space, Name: "gw"}}; !object.May(o) {
		t.Error("May of a parent with the route's space, and without one, is false")
	}
	for _, l := range [][]api.Parent{make([]api.Parent, 1), make([]api.Parent, 4), make([]api.Parent, 1<<16)} {
		if o.Parents = l; object.May(o) {
			t.Errorf("May of %d parents is true", len(l))
		}
	}
}

func mayHosts(l ...string) bool {
	o := least(api.RouteK)
	o.Hosts = l
	return object.May(o)
}

func TestMayHosts(t *testing.T) {
	for _, p := range patterns {
		if mayHosts(p) != (p != "") || mayHosts("x.y", p) != (p != "") || mayHosts(p, "x.y", "x.z", "x.w") != (p != "") {
			t.Errorf("May of the host %q is %t", p, mayHosts(p))
		}
	}
	for _, p := range noPatterns {
		if mayHosts(p) || mayHosts("x.y", p) || mayHosts(p, "x.y", "x.z", "x.w") {
			t.Errorf("May of the host %.80q is true", p)
		}
	}
	for n := range 20 {
		var l []string
		for i := range n {
			l = append(l, fmt.Sprint("h", i))
		}
		if mayHosts(l...) != (n <= 4) {
			t.Errorf("May of %d hosts is %t", n, mayHosts(l...))
		}
	}
	for i := range 4 {
		for k := range i {
			l := full(api.RouteK).Hosts
			if l[i], l[k] = l[k], l[i]; !mayHosts(l...) {
				t.Errorf("May of the hosts %q is false", l)
			}
			if l[i] = l[k]; mayHosts(l...) {
				t.Errorf("May of the hosts %q is true", l)
			}
		}
	}
	if mayHosts(make([]string, 4)...) || mayHosts(make([]string, 1<<16)...) {
		t.Error("May of empty hosts is true")
	}
}

// checkRule: may a route with that rule be just if it may, alone, and at each place among others?
func checkRule(t *testing.T, r api.Rule, want bool) {
	t.Helper()
	o := least(api.RouteK)
	if o.Rules = []api.Rule{r}; object.May(o) != want {
		t.Errorf("May of the rule %s is %t", brief(r), !want)
	}
	for i := range 6 {
		o := full(api.RouteK)
		if o.Rules[i] = r; object.May(o) != want {
			t.Errorf("May of the rule %s at %d is %t", brief(r), i, !want)
		}
	}
}

func TestMayRules(t *testing.T) {
	checkRule(t, api.Rule{}, true)
	for n := range 20 {
		for _, r := range []api.Rule{{}, fullRules()[0]} {
			o := least(api.RouteK)
			// A rule may be there twice.
			if o.Rules = slices.Repeat([]api.Rule{r}, n); object.May(o) != (n <= 6) {
				t.Errorf("May of %d rules is %t", n, object.May(o))
			}
		}
	}
	o := least(api.RouteK)
	if o.Rules = make([]api.Rule, 1<<16); object.May(o) {
		t.Error("May of rules without end is true")
	}
}

func TestMayMatches(t *testing.T) {
	good := fullRules()[0].Matches[0]
	for n := range 20 {
		checkRule(t, api.Rule{Matches: slices.Repeat([]api.Match{good}, n)}, n <= 4)
	}
	checkRule(t, api.Rule{Matches: []api.Match{}}, true)
	checkRule(t, api.Rule{Matches: slices.Repeat([]api.Match{good}, 1<<16)}, false)
	for i, m := range []api.Match{
		good, {Path: api.Path{Kind: api.Exact, Val: "/"}}, {Path: api.Path{Kind: api.Prefix, Val: "/"}, Method: "POST"},
		{}, {Path: api.Path{Kind: 3, Val: "/"}}, {Path: api.Path{Kind: api.Prefix, Val: "/a/"}}, {Path: good.Path, Method: "get"},
		{Path: good.Path, Head: []api.Pair{{}}}, {Path: good.Path, Query: []api.Pair{{}}}, {Path: good.Path, Head: []api.Pair{{Name: "a"}, {Name: "A"}}},
	} {
		if rule.May(m) != (i < 3) {
			t.Errorf("rule.May(%+v) is %t", m, rule.May(m))
		}
		for k := range 4 {
			l := slices.Repeat([]api.Match{good}, 4)
			l[k] = m
			checkRule(t, api.Rule{Matches: l}, i < 3)
		}
		checkRule(t, api.Rule{Matches: []api.Match{m}}, i < 3)
	}
}

func TestMayFilters(t *testing.T) {
	for i, l := range [][]api.Filter{
		{}, {{Kind: api.DropF, Name: "a"}}, {{Kind: api.SetF, Name: "a", Val: "1"}, {Kind: api.AwayF, Code: 301}}, fullRules()[0].Filters,
		{{}}, {{Kind: 6, Name: "a"}}, {{Kind: api.AwayF}}, {{Kind: api.DropF, Name: "a"}, {Kind: api.DropF, Name: "A"}}, {{Kind: api.AwayF, Code: 301}, {Kind: api.SwapF, Path: "/"}},
		append(fullRules()[0].Filters, api.Filter{Kind: api.DropF, Name: "a"}), make([]api.Filter, 1<<16),
	} {
		if filter.All(l) != (i < 4) {
			t.Errorf("filter.All(%s) is %t", brief(l), filter.All(l))
		}
		checkRule(t, api.Rule{Filters: l}, i < 4)
	}
}

// checkBackend: may a route with that backend be just if it may, alone, and at each place among others?
func checkBackend(t *testing.T, b api.Backend, want bool) {
	t.Helper()
	checkRule(t, api.Rule{Backends: []api.Backend{b}}, want)
	for i := range 4 {
		r := fullRules()[2]
		r.Backends[i] = b
		checkRule(t, r, want)
	}
}

func TestMayBackend(t *testing.T) {
	for _, kind := range kinds {
		for _, name := range []string{"api", "a.b", label20, name60} {
			for _, space := range []string{"", "web", label20} {
				checkBackend(t, api.Backend{Ref: ref(kind, space, name)}, true)
			}
		}
		for _, name := range append([]string{""}, noNames...) {
			checkBackend(t, api.Backend{Ref: ref(kind, "", name)}, false)
		}
		for _, space := range slices.Concat(dotted, noNames) {
			checkBackend(t, api.Backend{Ref: ref(kind, space, "api")}, false)
		}
	}
	for _, kind := range noKinds {
		checkBackend(t, api.Backend{Ref: ref(kind, "", "api")}, false)
		checkBackend(t, api.Backend{Ref: ref(kind, "web", "api")}, false)
	}
	service := ref(api.ServiceK, "", "api")
	for _, port := range append([]int{0}, ports...) {
		checkBackend(t, api.Backend{Ref: service, Port: port}, true)
	}
	for _, port := range noPorts {
		checkBackend(t, api.Backend{Ref: service, Port: port}, false)
	}
	for _, weight := range []int{0, 1, 2, 500, 999, 1000} {
		checkBackend(t, api.Backend{Ref: service, Weight: weight}, true)
	}
	for _, weight := range []int{-1, -1000, 1001, 65535, 1 << 32, 1<<32 + 1, -1<<32 + 1, math.MaxInt, math.MinInt} {
		checkBackend(t, api.Backend{Ref: service, Weight: weight}, false)
	}
	checkBackend(t, api.Backend{}, false)
}

func TestMayBackendsCounts(t *testing.T) {
	b := api.Backend{Ref: ref(api.ServiceK, "", "api"), Port: 80, Weight: 1}
	for n := range 20 {
		// A backend may be there twice.
		checkRule(t, api.Rule{Backends: slices.Repeat([]api.Backend{b}, n)}, n <= 4)
	}
	checkRule(t, api.Rule{Backends: []api.Backend{}}, true)
	checkRule(t, api.Rule{Backends: slices.Repeat([]api.Backend{b}, 1<<16)}, false)
}

// P9.1: grants.

// checkSide: may a grant with that side in From, and in To, be just if it may there?
func checkSide(t *testing.T, s api.Side, from, to bool) {
	t.Helper()
	for i := range 5 {
		o := full(api.GrantK)
		if i < 4 {
			o.From[i] = s
		} else {
			o.From = []api.Side{s}
		}
		if object.May(o) != from {
			t.Errorf("May with %s in From, at %d, is %t", brief(s), i, !from)
		}
		o = full(api.GrantK)
		if i < 4 {
			o.To[i] = s
		} else {
			o.To = []api.Side{s}
		}
		if object.May(o) != to {
			t.Errorf("May with %s in To, at %d, is %t", brief(s), i, !to)
		}
	}
}

func TestMaySides(t *testing.T) {
	for _, kind := range kinds {
		for _, space := range labels {
			checkSide(t, api.Side{Kind: kind, Space: space}, true, false)
			checkSide(t, api.Side{Kind: kind, Space: space, Name: "x"}, false, false)
		}
		for _, space := range slices.Concat(dotted, noNames) {
			checkSide(t, api.Side{Kind: kind, Space: space}, false, false)
		}
		for _, name := range append([]string{""}, names...) {
			checkSide(t, api.Side{Kind: kind, Name: name}, false, true)
		}
		for _, name := range noNames {
			checkSide(t, api.Side{Kind: kind, Name: name}, false, false)
		}
	}
	for _, kind := range noKinds {
		for _, s := range []api.Side{{Kind: kind}, {Kind: kind, Space: "web"}, {Kind: kind, Name: "x"}} {
			checkSide(t, s, false, false)
		}
	}
	checkSide(t, api.Side{}, false, false)
	checkSide(t, api.Side{Space: "web"}, false, false)
	checkSide(t, api.Side{Name: "x"}, false, false)
}

func TestMaySidesCounts(t *testing.T) {
	from, to := least(api.GrantK).From, least(api.GrantK).To
	for n := range 8 {
		for m := range 8 {
			o := least(api.GrantK)
			// A side may be there twice.
			o.From, o.To = slices.Repeat(from, n), slices.Repeat(to, m)
			if object.May(o) != (1 <= n && n <= 4 && 1 <= m && m <= 4) {
				t.Errorf("May of %d and %d sides is %t", n, m, object.May(o))
			}
		}
	}
	o := least(api.GrantK)
	if o.From = slices.Repeat(from, 1<<16); object.May(o) {
		t.Error("May of sides without end in From is true")
	}
	o = least(api.GrantK)
	if o.To = slices.Repeat(to, 1<<16); object.May(o) {
		t.Error("May of sides without end in To is true")
	}
}

// The chapter's words of parts, said once more, over all of a few values of each field.

func labelByWords(s string) bool { return len(dns.Labels(s)) == 1 }

func nameByWords(s string) bool { return len(dns.Labels(s)) > 0 }

func listenerByWords(l api.Listener) bool {
	named := labelByWords(l.Name) && l.Port > 0 && l.Port < 65536 && host.May(l.Host)
	let := l.From == 2 && label.Needs(l.Needs) || len(l.Needs) == 0 && (l.From == 0 || l.From == 1)
	if l.TLS {
		inSpace := len(l.Cert.Space) == 0 || labelByWords(l.Cert.Space)
		return named && let && l.Cert.Kind == 4 && inSpace && nameByWords(l.Cert.Name)
	}
	return named && let && l.Cert.Kind == 0 && l.Cert.Space+l.Cert.Name == ""
}

func TestListenersByWords(t *testing.T) {
	var may, not int
	for _, l := range allListeners() {
		o := least(api.GatewayK)
		o.Listeners[0] = l
		if object.May(o) != listenerByWords(l) {
			t.Fatalf("May of the listener %s is %t", brief(l), object.May(o))
		}
		if object.May(o) {
			may++
		} else {
			not++
		}
	}
	if may == 0 || not == 0 {
		t.Errorf("so many may be: %d, and not: %d", may, not)
	}
}

func allListeners() []api.Listener {
	var certs []api.Ref
	for _, kind := range []int{0, 3, 4, 5} {
		for _, space := range []string{"", "web", "a.b"} {
			for _, name := range []string{"", "c", "c.d", "C"} {
				certs = append(certs, ref(kind, space, name))
			}
		}
	}
	var out []api.Listener
	for _, name := range []string{"", "a", "a.b"} {
		for _, port := range []int{0, 1, 65535, 65536} {
			for _, h := range []string{"", "*.a", "A"} {
				for _, from := range []int{-1, 0, 1, 2, 3} {
					for _, needs := range [][]api.Need{nil, {{Kind: api.Has, Name: "a"}}, {{}}} {
						for _, cert := range certs {
							l := api.Listener{Name: name, Port: port, Host: h, From: from, Needs: needs, Cert: cert}
							secure := l
							secure.TLS = true
							out = append(out, l, secure)
						}
					}
				}
			}
		}
	}
	return out
}

func TestRoutesByWords(t *testing.T) {
	texts := []string{"", "a", "a.b", "A", strings.Repeat("b", 21)}
	for _, x := range texts {
		for _, y := range texts {
			for _, z := range texts {
				for _, n := range []int{-1, 0, 1, 7, 8, 1000, 1001, 65535, 65536} {
					free := func(s string) bool { return s == "" || labelByWords(s) }
					port := n >= 0 && n < 65536
					o := least(api.RouteK)
					o.Parents = []api.Parent{{Space: x, Name: y, Section: z, Port: n}}
					if want := free(x) && nameByWords(y) && free(z) && port; object.May(o) != want {
						t.Fatalf("May of the parents %+v is %t", o.Parents, !want)
					}
					for _, b := range []api.Backend{{Ref: ref(n, x, y)}, {Ref: ref(3, x, y), Port: n}, {Ref: ref(3, x, y), Weight: n}, {Ref: ref(n, x, y), Port: n, Weight: n}} {
						o := least(api.RouteK)
						o.Rules = []api.Rule{{Backends: []api.Backend{b}}}
						kind, weight := b.Ref.Kind >= 1 && b.Ref.Kind <= 7, b.Weight >= 0 && b.Weight <= 1000
						if want := kind && free(x) && nameByWords(y) && weight && b.Port >= 0 && b.Port < 65536; object.May(o) != want {
							t.Fatalf("May of the backend %+v is %t", b, !want)
						}
					}
					s := api.Side{Kind: n, Space: x, Name: y}
					kind := n >= 1 && n <= 7
					checkSide(t, s, kind && labelByWords(x) && y == "", kind && x == "" && (y == "" || nameByWords(y)))
				}
			}
		}
	}
}
