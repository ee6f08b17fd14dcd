package listen_test

import (
	"fmt"
	"math"
	"slices"
	"testing"

	"toll/api"
	"toll/listen"
	"toll/object"
)

func ref(kind int, space, name string) api.Ref {
	return api.Ref{Kind: kind, Space: space, Name: name}
}

// class is a class that is Good, or is not.
func class(name string, good bool) api.Object {
	return api.Object{Ref: ref(api.ClassK, "", name), Good: good}
}

// secret is a secret that is Good, or is not.
func secret(space, name string, good bool) api.Object {
	return api.Object{Ref: ref(api.SecretK, space, name), Good: good}
}

// let is a grant in a space, for a kind of another one, to objects of a kind.
func let(space string, kind int, comes string, target int, name string) api.Object {
	return api.Object{
		Ref:  ref(api.GrantK, space, "let"),
		From: []api.Side{{Kind: kind, Space: comes}},
		To:   []api.Side{{Kind: target, Name: name}},
	}
}

// wrong is an object that may not be, but has all else that it had.
func wrong(o api.Object) api.Object {
	o.Hosts = []string{"a.test"}
	return o
}

// open is a listener without TLS.
func open(port int, host string) api.Listener {
	return api.Listener{Port: port, Host: host}
}

// tls is a listener by TLS, with the certificate good of its gateway's space.
func tls(port int, host string) api.Listener {
	return by(port, host, "", "good")
}

// by is a listener by TLS, with a certificate.
func by(port int, host, space, name string) api.Listener {
	return api.Listener{Port: port, TLS: true, Host: host, Cert: ref(api.SecretK, space, name)}
}

// gw is a gateway in web, of the class ours, with listeners that are named by their places.
func gw(l ...api.Listener) api.Object {
	l = slices.Clone(l)
	for i := range l {
		l[i].Name = string(rune('a' + i))
	}
	return api.Object{Ref: ref(api.GatewayK, "web", "gw"), Class: "ours", Listeners: l}
}

// base is the objects by which gw is ours, and its certificate goes.
func base() []api.Object {
	return []api.Object{class("ours", true), secret("web", "good", true)}
}

// four is a gateway of the chapter's examples.
func four() api.Object {
	return gw(open(80, "a.test"), open(80, "a.test"), open(80, "b.test"), tls(443, ""))
}

// others is an object of each other kind than GatewayK, that may be.
func others() []api.Object {
	return []api.Object{
		class("ours", true),
		{Ref: ref(api.SpaceK, "", "web"), Labels: []api.Pair{{Name: "team", Val: "a"}}},
		{Ref: ref(api.ServiceK, "web", "gw"), Ports: []int{80, 443}},
		secret("web", "gw", true),
		{
			Ref:     ref(api.RouteK, "web", "gw"),
			Parents: []api.Parent{{Name: "gw"}},
			Hosts:   []string{"a.test", "*.test"},
			Rules: []api.Rule{{
				Matches:  []api.Match{{Path: api.Path{Kind: api.Prefix, Val: "/"}, Head: []api.Pair{{Name: "h", Val: "1"}}}},
				Filters:  []api.Filter{{Kind: api.SetF, Name: "via", Val: "toll"}},
				Backends: []api.Backend{{Ref: ref(api.ServiceK, "web", "api"), Port: 80, Weight: 1}},
			}},
		},
		let("web", api.GatewayK, "app", api.SecretK, ""),
	}
}

// noGateways is gateways that may not be, each by one part, though their first listener would be served else; the last ones are of no kind, or of another one.
func noGateways() map[string]api.Object {
	out := map[string]api.Object{}
	put := func(what string, change func(g *api.Object)) {
		g := gw(open(80, "a.test"), tls(443, "b.test"))
		change(&g)
		out[what] = g
	}
	put("no listeners", func(g *api.Object) { g.Listeners = nil })
	put("nine listeners", func(g *api.Object) { *g = gw(crowd(9)...) })
	put("one name twice", func(g *api.Object) { g.Listeners[1].Name = "a" })
	put("no name", func(g *api.Object) { g.Listeners[1].Name = "" })
	put("port 0", func(g *api.Object) { g.Listeners[1].Port = 0 })
	put("port 65536", func(g *api.Object) { g.Listeners[1].Port = 65536 })
	put("a port below 0", func(g *api.Object) { g.Listeners[1].Port = -80 })
	put("a host that is no pattern", func(g *api.Object) { g.Listeners[1].Host = "B.test" })
	put("a certificate without TLS", func(g *api.Object) { g.Listeners[1].TLS = false })
	put("TLS without a certificate", func(g *api.Object) { g.Listeners[1].Cert = api.Ref{} })
	put("a certificate of another kind", func(g *api.Object) { g.Listeners[1].Cert.Kind = api.ServiceK })
	put("a certificate in no space", func(g *api.Object) { g.Listeners[1].Cert.Space = "a.b" })
	put("from nowhere", func(g *api.Object) { g.Listeners[1].From = 3 })
	put("needs of all", func(g *api.Object) { g.Listeners[1].Needs = []api.Need{{Kind: api.Has, Name: "x"}} })
	put("no class", func(g *api.Object) { g.Class = "" })
	put("a class that is no name", func(g *api.Object) { g.Class = "Ours" })
	put("no space", func(g *api.Object) { g.Ref.Space = "" })
	put("a space that is no label", func(g *api.Object) { g.Ref.Space = "web.a" })
	put("no name of its own", func(g *api.Object) { g.Ref.Name = "" })
	put("Good", func(g *api.Object) { g.Good = true })
	put("hosts", func(g *api.Object) { *g = wrong(*g) })
	for kind := -1; kind <= 8; kind++ {
		if kind != api.GatewayK {
			put(fmt.Sprint("kind ", kind), func(g *api.Object) { g.Ref.Kind = kind })
			put(fmt.Sprint("kind ", kind, " in no space"), func(g *api.Object) { g.Ref.Kind, g.Ref.Space = kind, "" })
		}
	}
	put("kind 5 and 2^32", func(g *api.Object) { g.Ref.Kind += 1 << 32 })
	out["nothing"] = api.Object{}
	return out
}

// crowd is so many listeners of one port, each with a host of its own.
func crowd(n int) []api.Listener {
	var out []api.Listener
	for i := range n {
		out = append(out, open(80, string(rune('a'+i))+".test"))
	}
	return out
}

// noPlaces are places at which no gateway that may be has a listener.
var noPlaces = []int{-1, -2, -8, math.MinInt, math.MinInt + 1, -1 << 32, 8, 9, 1 << 16, 1 << 32, 1<<32 + 1, 1 << 62, math.MaxInt}

// brief is a value's text, cut where it would fill the screen.
func brief(v any) string { return fmt.Sprintf("%.900s", fmt.Sprintf("%+v", v)) }

func TestEdges(t *testing.T) {
	may := append(append(base(), others()...), four(), gw(crowd(8)...), gw(by(443, "a.test", "app", "good")))
	for _, o := range may {
		if !object.May(o) {
			t.Errorf("the object %s is no good for tests", brief(o))
		}
		if object.May(wrong(o)) && o.Ref.Kind != api.RouteK {
			t.Errorf("with a host, too, it may be: %s", brief(o))
		}
	}
	for what, o := range noGateways() {
		if object.May(o) {
			t.Errorf("it may be: %s", what)
		}
	}
}

func TestExamples(t *testing.T) {
	g := four()
	if got := listen.Conflict(g, 0); got != api.Hostnames {
		t.Errorf("example 1: %q", got)
	}
	if got := listen.Conflict(g, 2); got != "" {
		t.Errorf("example 2: %q", got)
	}
	if got := listen.Cert([]api.Object{class("ours", true)}, g, 3); got != api.BadCert {
		t.Errorf("example 3: %q", got)
	}
	if got := listen.All(base(), g); !slices.Equal(got, []int{2, 3}) {
		t.Errorf("of the examples' listeners these are served: %v", got)
	}
}

// P12.1: Ours.

func checkOurs(t *testing.T, what string, l []api.Object, g api.Object, want bool) {
	t.Helper()
	if got := listen.Ours(l, g); got != want {
		t.Errorf("%s: Ours is %t", what, got)
	}
	if !want {
		checkNoneServed(t, what, l, g)
	}
}

// checkNoneServed: is no listener served, at whatever place?
func checkNoneServed(t *testing.T, what string, l []api.Object, g api.Object) {
	t.Helper()
	if all := listen.All(l, g); len(all) != 0 {
		t.Errorf("%s: All is %v", what, all)
	}
	for i := range len(g.Listeners) + 1 {
		if listen.Served(l, g, i) {
			t.Errorf("%s: %d is served", what, i)
		}
	}
}

func TestOurs(t *testing.T) {
	g := gw(open(80, ""))
	checkOurs(t, "a Good class", []api.Object{class("ours", true)}, g, true)
	checkOurs(t, "behind others", append(others()[1:], class("ours", true)), g, true)
	checkOurs(t, "ahead of others", append([]api.Object{class("ours", true)}, others()...), g, true)
	checkOurs(t, "no objects", nil, g, false)
	checkOurs(t, "not one object", []api.Object{}, g, false)
	checkOurs(t, "no class", others()[1:], g, false)
	checkOurs(t, "itself alone", []api.Object{g}, g, false)
	checkOurs(t, "a class that is not Good", []api.Object{class("ours", false)}, g, false)
	checkOurs(t, "one that may not be", []api.Object{wrong(class("ours", true))}, g, false)
	checkOurs(t, "one that is neither", []api.Object{wrong(class("ours", false))}, g, false)
	checkOurs(t, "the first one is Good", []api.Object{class("ours", true), class("ours", false)}, g, true)
	checkOurs(t, "the second one is Good", []api.Object{class("ours", false), class("ours", true)}, g, false)
	checkOurs(t, "the second one may not be", []api.Object{class("ours", true), wrong(class("ours", true))}, g, true)
	checkOurs(t, "the first one may not be", []api.Object{wrong(class("ours", true)), class("ours", true)}, g, false)
	checkOurs(t, "another one is Good", []api.Object{class("theirs", true), class("ours", false)}, g, false)
	checkOurs(t, "another one is not Good", []api.Object{class("theirs", false), class("ours", true)}, g, true)
}

// TestOursByTheClassAlone: what has not the ref of the gateway's class is not its class.
func TestOursByTheClassAlone(t *testing.T) {
	g := gw(open(80, ""))
	for _, r := range []api.Ref{ref(api.ClassK, "", "our"), ref(api.ClassK, "", "ours.a"), ref(api.ClassK, "", "gw"), ref(api.ClassK, "web", "ours"), ref(api.SecretK, "web", "ours"), ref(api.SecretK, "", "ours"), ref(0, "", "ours"), ref(1<<32+1, "", "ours"), ref(api.ClassK, "", "OURS")} {
		o := api.Object{Ref: r, Good: true}
		checkOurs(t, brief(r), []api.Object{o}, g, false)
		checkOurs(t, brief(r)+" and ours", []api.Object{o, class("ours", true)}, g, true)
	}
	for _, name := range []string{"a", "a.b", "x-1.test"} {
		g.Class = name
		checkOurs(t, name, []api.Object{class(name, true)}, g, true)
		checkOurs(t, name, []api.Object{class("ours", true)}, g, false)
	}
	// In each space it is the same class.
	g = gw(open(80, ""))
	g.Ref = ref(api.GatewayK, "app", "a.b")
	checkOurs(t, "a gateway of app", []api.Object{class("ours", true)}, g, true)
}

func TestOursOfOtherKinds(t *testing.T) {
	l := append(base(), others()...)
	for _, o := range others() {
		checkOurs(t, brief(o), l, o, false)
		o.Class = "ours"
		checkOurs(t, brief(o), l, o, false)
		o.Listeners = gw(open(80, "")).Listeners
		checkOurs(t, brief(o), l, o, false)
	}
}

// TestNoGateway: of a gateway that may not be nothing is said, whatever it has.
func TestNoGateway(t *testing.T) {
	lists := [][]api.Object{nil, base(), base()[:1], append(base(), others()...), append(base(), class("", true), class("Ours", true))}
	for what, g := range noGateways() {
		for _, l := range lists {
			checkOurs(t, what, l, g, false)
			for i := -1; i <= len(g.Listeners); i++ {
				checkSays(t, what, l, g, i, "", "")
			}
		}
	}
	// One by TLS and one not, of one port, of which a third one may not be.
	g := gw(open(80, ""), by(80, "", "app", "none"), open(80, "A"))
	for i := range g.Listeners {
		checkSays(t, "a third one may not be", base(), g, i, "", "")
	}
	checkSays(t, "but for the third one", base(), gw(g.Listeners[:2]...), 1, api.Protocols, api.NotLet)
}

// checkSays: is just that said of a listener?
func checkSays(t *testing.T, what string, l []api.Object, g api.Object, i int, conflict, cert string) {
	t.Helper()
	if got := listen.Conflict(g, i); got != conflict {
		t.Errorf("%s: Conflict of %d is %q, not %q", what, i, got, conflict)
	}
	if got := listen.Cert(l, g, i); got != cert {
		t.Errorf("%s: Cert of %d is %q, not %q", what, i, got, cert)
	}
}

// TestNoPlace: at a place without a listener nothing is said, and none is served.
func TestNoPlace(t *testing.T) {
	gateways := []api.Object{
		gw(open(80, "")), gw(tls(443, "")), gw(by(443, "", "app", "none")),
		gw(open(80, ""), tls(80, "")), four(), gw(crowd(8)...),
	}
	for _, g := range gateways {
		for _, i := range append([]int{len(g.Listeners), len(g.Listeners) + 1}, noPlaces...) {
			for _, l := range [][]api.Object{nil, base()} {
				checkSays(t, "no place", l, g, i, "", "")
				if listen.Served(l, g, i) {
					t.Errorf("%d of %d is served", i, len(g.Listeners))
				}
			}
		}
	}
}

// P12.1: Conflict.

// conflicts is what is said of a gateway's listeners, by one letter each: P, H, or - for none.
func conflicts(g api.Object) string {
	out := ""
	for i := range g.Listeners {
		switch listen.Conflict(g, i) {
		case api.Protocols:
			out += "P"
		case api.Hostnames:
			out += "H"
		case "":
			out += "-"
		default:
			out += "?"
		}
	}
	return out
}

func TestConflict(t *testing.T) {
	same := slices.Repeat([]api.Listener{open(80, "a.test")}, 8)
	last := crowd(8)
	last[7].Host = last[0].Host
	far := crowd(8)
	far[3] = tls(81, far[2].Host)
	mixed := crowd(8)
	mixed[5] = tls(80, "x.test")
	for _, c := range []struct {
		what string
		l    []api.Listener
		want string
	}{
		{"one alone", []api.Listener{open(80, "")}, "-"},
		{"one alone by TLS", []api.Listener{tls(443, "a.test")}, "-"},
		{"one port and one host", []api.Listener{open(80, "a.test"), open(80, "a.test")}, "HH"},
		{"one port and one pattern", []api.Listener{open(80, "*.test"), open(80, "*.test")}, "HH"},
		{"one port and one host by TLS", []api.Listener{tls(80, "a.test"), tls(80, "a.test")}, "HH"},
		{"one port and two hosts", []api.Listener{open(80, "a.test"), open(80, "b.test")}, "--"},
		{"one port and two hosts by TLS", []api.Listener{tls(80, "a.test"), tls(80, "b.test")}, "--"},
		{"a host, and a pattern that stands for it", []api.Listener{open(80, "a.test"), open(80, "*.test"), open(80, "")}, "---"},
		{"two ports and one host", []api.Listener{open(80, "a.test"), open(81, "a.test")}, "--"},
		{"two ports and one host, one by TLS", []api.Listener{open(80, "a.test"), tls(443, "a.test")}, "--"},
		{"one by TLS, one host", []api.Listener{open(80, "a.test"), tls(80, "a.test")}, "PP"},
		{"one by TLS ahead, one host", []api.Listener{tls(80, "a.test"), open(80, "a.test")}, "PP"},
		{"one by TLS, two hosts", []api.Listener{open(80, "a.test"), tls(80, "b.test")}, "PP"},
		{"one by TLS, no host", []api.Listener{open(80, ""), tls(80, "")}, "PP"},
		{"three, one in both ways", []api.Listener{open(80, "a.test"), open(80, "a.test"), tls(80, "b.test")}, "PPP"},
		{"three, one in both ways, the other one ahead", []api.Listener{tls(80, "b.test"), open(80, "a.test"), open(80, "a.test")}, "PPP"},
		{"three, one in both ways, the other one between", []api.Listener{open(80, "a.test"), tls(80, "a.test"), open(80, "a.test")}, "PPP"},
		{"the empty host twice", []api.Listener{open(80, ""), open(80, "")}, "HH"},
		{"the empty host twice by TLS", []api.Listener{tls(80, ""), tls(80, "")}, "HH"},
		{"the empty host twice, with another one", []api.Listener{open(80, ""), open(80, "a.test"), open(80, "")}, "H-H"},
		{"the empty host and another one", []api.Listener{open(80, ""), open(80, "a.test")}, "--"},
		{"three of one host", []api.Listener{open(80, "a.test"), open(80, "a.test"), open(80, "a.test")}, "HHH"},
		{"two and two", []api.Listener{open(80, "a.test"), open(81, "a.test"), open(81, "a.test"), open(80, "a.test")}, "HHHH"},
		{"two and one by TLS elsewhere", []api.Listener{open(80, "a.test"), open(80, "a.test"), tls(81, "a.test")}, "HH-"},
		{"each in its way", []api.Listener{open(80, "a.test"), open(81, "a.test"), tls(80, "c.test"), open(81, "a.test"), open(82, "a.test")}, "PHPH-"},
		{"the least port and the greatest", []api.Listener{open(1, ""), open(65535, ""), tls(1, "a.test"), open(65535, "")}, "PHPH"},
		{"ports alike in their last bits", []api.Listener{open(80, ""), tls(80+256, ""), open(80+1<<15, ""), open(80+256, "a.test")}, "-P-P"},
		{"eight of one port", crowd(8), "--------"},
		{"eight of one port and one host", same, "HHHHHHHH"},
		{"eight of one port, the last as the first", last, "H------H"},
		{"eight, one by TLS at another port", far, "--------"},
		{"eight of one port, one by TLS", mixed, "PPPPPPPP"},
	} {
		g := gw(c.l...)
		if !object.May(g) {
			t.Errorf("%s: that may not be", c.what)
		}
		if got := conflicts(g); got != c.want {
			t.Errorf("%s: %s, not %s", c.what, got, c.want)
		}
	}
}

// TestConflictByPortAndHostAlone: what else a listener has, and a gateway, plays no part.
func TestConflictByPortAndHostAlone(t *testing.T) {
	g := gw(open(80, "a.test"), open(80, "a.test"), tls(443, "a.test"), tls(443, "a.test"), tls(444, "a.test"), open(444, "b.test"), open(90, ""))
	const want = "HHHHPP-"
	needs := []api.Need{{Kind: api.Has, Name: "team"}}
	g.Listeners[0].From = api.AllSpaces
	g.Listeners[1].From, g.Listeners[1].Needs = api.SomeSpaces, needs
	g.Listeners[3].Cert = ref(api.SecretK, "app", "none")
	g.Listeners[6].From, g.Listeners[6].Needs = api.SomeSpaces, needs
	for _, name := range []string{"x", "x-1"} {
		g.Listeners[2].Name = name
		g.Class = "theirs"
		if got := conflicts(g); got != want || !object.May(g) {
			t.Errorf("%s, not %s", got, want)
		}
		g.Ref = ref(api.GatewayK, "app", "a.b")
	}
}
