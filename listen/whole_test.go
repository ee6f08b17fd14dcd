package listen_test

import (
	"reflect"
	"slices"
	"testing"
	"time"

	"toll/api"
	"toll/listen"
	"toll/object"
)

// P12.3, R1, R3, R4, and all calls held against the chapter's words.

// goodByWords: is there an object of that ref, and is the first such one that may be, and is Good?
func goodByWords(l []api.Object, r api.Ref) bool {
	for len(l) > 0 && l[0].Ref != r {
		l = l[1:]
	}
	return len(l) > 0 && object.May(l[0]) && l[0].Good
}

func oursByWords(l []api.Object, g api.Object) bool {
	return g.Ref.Kind == 5 && object.May(g) && goodByWords(l, api.Ref{Kind: 1, Name: g.Class})
}

func conflictByWords(g api.Object, i int) string {
	if !object.May(g) || i < 0 || i >= len(g.Listeners) {
		return ""
	}
	var protocols, hostnames int
	a := g.Listeners[i]
	for j, b := range g.Listeners {
		if j == i || a.Port != b.Port {
			continue
		}
		if a.TLS && !b.TLS || b.TLS && !a.TLS {
			protocols++
		} else if a.Host == b.Host {
			hostnames++
		}
	}
	switch {
	case protocols > 0:
		return "ProtocolConflict"
	case hostnames > 0:
		return "HostnameConflict"
	}
	return ""
}

func certByWords(l []api.Object, g api.Object, i int) string {
	if !object.May(g) || i < 0 || i >= len(g.Listeners) || !g.Listeners[i].TLS {
		return ""
	}
	cert := g.Listeners[i].Cert
	if cert.Space == "" {
		cert.Space = g.Ref.Space
	}
	permitted := cert.Space == g.Ref.Space
	for _, o := range l {
		if o.Ref.Kind != 7 || o.Ref.Space != cert.Space || !object.May(o) {
			continue
		}
		for _, from := range o.From {
			for _, to := range o.To {
				if from.Kind == 5 && from.Space == g.Ref.Space && to.Kind == cert.Kind && (to.Name == "" || to.Name == cert.Name) {
					permitted = true
				}
			}
		}
	}
	switch {
	case !permitted:
		return "RefNotPermitted"
	case !goodByWords(l, cert):
		return "InvalidCertificateRef"
	}
	return ""
}

// checkWords: is all that is said of a gateway what the words say, at each place and beside them? It answers how many are served.
func checkWords(t *testing.T, l []api.Object, g api.Object) int {
	t.Helper()
	ours := oursByWords(l, g)
	if listen.Ours(l, g) != ours {
		t.Fatalf("Ours of %s among %s is %t", brief(g), brief(l), !ours)
	}
	var all []int
	for i := -1; i <= len(g.Listeners); i++ {
		conflict, cert := conflictByWords(g, i), certByWords(l, g, i)
		if got := listen.Conflict(g, i); got != conflict {
			t.Fatalf("Conflict of %d of %s is %q, not %q", i, brief(g), got, conflict)
		}
		if got := listen.Cert(l, g, i); got != cert {
			t.Fatalf("Cert of %d of %s among %s is %q, not %q", i, brief(g), brief(l), got, cert)
		}
		there := ours && i >= 0 && i < len(g.Listeners)
		served := there && conflict == "" && cert == ""
		if listen.Served(l, g, i) != served {
			t.Fatalf("that %d of %s is served among %s is %t", i, brief(g), brief(l), !served)
		}
		if served {
			all = append(all, i)
		}
	}
	if got := listen.All(l, g); !slices.Equal(got, all) {
		t.Fatalf("All of %s among %s is %v, not %v", brief(g), brief(l), got, all)
	}
	return len(all)
}

// upTo is all lists of at most n out of some.
func upTo[T any](n int, some []T) [][]T {
	out := [][]T{nil}
	last := out
	for range n {
		var next [][]T
		for _, l := range last {
			for _, x := range some {
				next = append(next, append(slices.Clip(l), x))
			}
		}
		last = next
		out = append(out, next...)
	}
	return out
}

// seats is listeners that conflict in one way or the other one, or in none.
func seats() []api.Listener {
	return []api.Listener{
		open(80, ""), open(80, "a.test"), tls(80, ""), tls(80, "a.test"),
		open(443, "a.test"), tls(443, "a.test"), tls(443, "*.test"),
	}
}

// some is a few objects that play a part, and some that differ from such ones in one.
func some() []api.Object {
	return []api.Object{
		class("ours", true), class("ours", false), wrong(class("ours", true)),
		secret("web", "good", true), secret("web", "good", false),
		secret("app", "good", true), wrong(secret("app", "good", true)),
		let("app", api.GatewayK, "web", api.SecretK, "good"), let("app", api.GatewayK, "web", api.SecretK, ""),
		let("app", api.RouteK, "web", api.SecretK, ""),
	}
}

// certs is a gateway with each kind of certificate.
func certs() api.Object {
	return gw(open(80, ""), tls(443, ""), by(444, "", "web", "good"), by(445, "", "app", "good"), by(446, "", "app", "other"), by(447, "", "", "other"))
}

// TestConflictsByWords has all gateways of at most four listeners out of a few.
func TestConflictsByWords(t *testing.T) {
	var served, none int
	for _, l := range upTo(4, seats()) {
		if n := checkWords(t, base(), gw(l...)); n > 0 {
			served++
		} else {
			none++
		}
	}
	if served < 500 || none < 500 {
		t.Errorf("so many gateways have some that are served: %d, and none: %d", served, none)
	}
}

// TestObjectsByWords has all lists of at most three out of a few objects.
func TestObjectsByWords(t *testing.T) {
	var counts [6]int
	for _, l := range upTo(3, some()) {
		counts[checkWords(t, l, certs())]++
		checkWords(t, l, gw(by(80, "", "app", "good"), open(80, ""), tls(443, "")))
	}
	if counts[0] < 500 || counts[1] == 0 || counts[2] == 0 || counts[3] == 0 {
		t.Errorf("so many are served: %v", counts)
	}
	for _, l := range upTo(5, []api.Object{some()[0], some()[3], some()[5], some()[7]}) {
		counts[checkWords(t, l, certs())]++
	}
	if counts[4] == 0 {
		t.Errorf("so many are served: %v", counts)
	}
}

// TestNoGatewayByWords: of gateways that may not be, too, what is said is what the words say.
func TestNoGatewayByWords(t *testing.T) {
	for _, g := range noGateways() {
		for _, l := range upTo(2, append(some()[:4], g)) {
			checkWords(t, l, g)
		}
	}
}

// pair is a gateway with two listeners of another one.
func pair(g api.Object, i, j int) api.Object {
	return gw(g.Listeners[i], g.Listeners[j])
}

// TestBothWays: who conflicts does so both ways, and a listener conflicts just as it does with one of the others alone.
func TestBothWays(t *testing.T) {
	for _, l := range upTo(4, seats()) {
		g := gw(l...)
		for i := range l {
			said := []string{""}
			for j := range l {
				if i == j {
					continue
				}
				two := pair(g, i, j)
				one, other, back := listen.Conflict(two, 0), listen.Conflict(two, 1), listen.Conflict(pair(g, j, i), 0)
				if one != other || one != back {
					t.Fatalf("%s conflict otherwise the other way round: %q, %q, %q", brief(two), one, other, back)
				}
				if one != "" && (listen.Conflict(g, i) == "" || listen.Conflict(g, j) == "") {
					t.Fatalf("two of %s conflict alone, and not here", brief(g))
				}
				said = append(said, one)
			}
			// Of the two reasons the first one is the greater text.
			if got := listen.Conflict(g, i); got != slices.Max(said) {
				t.Fatalf("Conflict of %d of %s is %q, by the others alone %q", i, brief(g), got, said)
			}
		}
	}
}

// TestNoTwoAtOnePlace: no two that are served have one port and one host, nor one port with TLS and without.
func TestNoTwoAtOnePlace(t *testing.T) {
	two := 0
	for _, l := range upTo(4, seats()) {
		g := gw(l...)
		all := listen.All(base(), g)
		for _, i := range all {
			for _, j := range all {
				a, b := g.Listeners[i], g.Listeners[j]
				if i == j || a.Port != b.Port {
					continue
				}
				two++
				if a.Host == b.Host || a.TLS != b.TLS {
					t.Fatalf("both are served: %s and %s", brief(a), brief(b))
				}
			}
		}
	}
	if two == 0 {
		t.Error("no two of one port are served")
	}
}

// said is all that is said of a listener.
type said struct {
	ours, served   bool
	conflict, cert string
}

func says(l []api.Object, g api.Object, i int) said {
	return said{listen.Ours(l, g), listen.Served(l, g, i), listen.Conflict(g, i), listen.Cert(l, g, i)}
}

func saysAll(l []api.Object, g api.Object) []said {
	var out []said
	for i := range g.Listeners {
		out = append(out, says(l, g, i))
	}
	return out
}

// TestTurnedRound: of each listener the same is said, wherever it is.
func TestTurnedRound(t *testing.T) {
	for _, l := range upTo(4, append(seats(), by(445, "", "app", "good"), by(446, "", "", "none"))) {
		g := gw(l...)
		if !object.May(g) {
			continue
		}
		want := saysAll(base(), g)
		turned := own(g)
		for range l {
			turned.Listeners = append(turned.Listeners[1:], turned.Listeners[0])
			want = append(want[1:], want[0])
			checkTurned(t, turned, want)
		}
		slices.Reverse(turned.Listeners)
		slices.Reverse(want)
		checkTurned(t, turned, want)
	}
}

func checkTurned(t *testing.T, g api.Object, want []said) {
	t.Helper()
	if got := saysAll(base(), g); !slices.Equal(got, want) {
		t.Fatalf("of %s, whose listeners are turned round, %v is said, not %v", brief(g), got, want)
	}
	var all []int
	for i, s := range want {
		if s.served {
			all = append(all, i)
		}
	}
	if got := listen.All(base(), g); !slices.Equal(got, all) {
		t.Fatalf("All of %s, whose listeners are turned round, is %v, not %v", brief(g), got, all)
	}
}

// strangers is objects that play no part for gw, whatever listeners it has.
func strangers() []api.Object {
	g := gw(open(80, ""), tls(443, ""), open(443, ""))
	other := own(g)
	other.Ref.Name = "other"
	far := own(g)
	far.Ref.Space = "app"
	route := others()[4]
	away := route
	away.Ref.Space = "app"
	return []api.Object{
		g, other, far, wrong(g), wrong(other), route, away, wrong(route),
		class("theirs", true), class("theirs", false), wrong(class("theirs", false)),
		secret("web", "theirs", true), secret("web", "theirs", false), secret("ops", "good", false), secret("ops", "good", true),
		let("ops", api.GatewayK, "web", api.SecretK, ""), let("app", api.GatewayK, "ops", api.SecretK, ""), let("app", api.RouteK, "web", api.SecretK, ""),
		others()[1], others()[2], others()[3], {},
	}
}

// TestStrangers: other gateways' objects, and routes, play no part, wherever they are put in.
func TestStrangers(t *testing.T) {
	gateways := []api.Object{certs(), four(), gw(tls(443, ""), open(443, "a.test")), gw(by(443, "", "app", "good"))}
	for _, l := range upTo(2, some()) {
		for _, g := range gateways {
			want := saysAll(l, g)
			for _, o := range strangers() {
				for i := range len(l) + 1 {
					more := slices.Insert(slices.Clone(l), i, o)
					if got := saysAll(more, g); !slices.Equal(got, want) {
						t.Fatalf("with %s another thing is said of %s: %v, not %v", brief(o), brief(g), got, want)
					}
				}
			}
			if got := saysAll(slices.Concat(strangers(), l, strangers()), g); !slices.Equal(got, want) {
				t.Fatalf("among strangers another thing is said of %s: %v, not %v", brief(g), got, want)
			}
		}
	}
}

// TestWithoutTLS: certificates, and whom grants let, play no part for listeners without TLS.
func TestWithoutTLS(t *testing.T) {
	g := gw(open(80, "a.test"), open(80, "a.test"), open(81, ""), open(443, "*.test"))
	for _, l := range upTo(3, some()[3:]) {
		checkServed(t, "a class, and certificates", slices.Concat(some()[:1], l), g, 2, 3)
		checkServed(t, "certificates, and a class", slices.Concat(l, some()[:1]), g, 2, 3)
		for i := range g.Listeners {
			if got := listen.Cert(l, g, i); got != "" {
				t.Fatalf("Cert of %d, without TLS, is %q", i, got)
			}
		}
	}
}

// roomy is a value with lists of its own, each with room behind its end, that holds what is in the list.
func roomy[T any](x T) T { return deep(reflect.ValueOf(x), 1).Interface().(T) }

// own is a value with lists of its own.
func own[T any](x T) T { return deep(reflect.ValueOf(x), 0).Interface().(T) }

func deep(v reflect.Value, room int) reflect.Value {
	out := reflect.New(v.Type()).Elem()
	out.Set(v)
	switch v.Kind() {
	case reflect.Struct:
		for i := range v.NumField() {
			out.Field(i).Set(deep(v.Field(i), room))
		}
	case reflect.Slice:
		n := v.Len()
		out.Set(reflect.MakeSlice(v.Type(), n*(1+room), n*(1+room)))
		for i := range n * (1 + room) {
			out.Index(i).Set(deep(v.Index(i%n), room))
		}
		out.SetLen(n)
	}
	return out
}

// whole is a value of which each list goes on to the end of its room.
func whole[T any](x T) T {
	v := reflect.ValueOf(&x).Elem()
	spread(v)
	return x
}

func spread(v reflect.Value) {
	switch v.Kind() {
	case reflect.Struct:
		for i := range v.NumField() {
			spread(v.Field(i))
		}
	case reflect.Slice:
		v.Set(reflect.AppendSlice(reflect.MakeSlice(v.Type(), 0, v.Cap()), v.Slice(0, v.Cap())))
		for i := range v.Len() {
			spread(v.Index(i))
		}
	}
}

// TestNothingIsShared: what is handed in stays as it was, also behind the ends of its lists, and two answers have no list in common.
func TestNothingIsShared(t *testing.T) {
	needs := certs()
	needs.Listeners[0].From, needs.Listeners[0].Needs = api.SomeSpaces, []api.Need{{Kind: api.Is, Name: "team", Vals: []string{"a", "b"}}}
	for _, g := range []api.Object{certs(), needs, four(), gw(crowd(8)...), gw(tls(80, ""), open(80, ""), open(80, "")), wrong(certs())} {
		for _, l := range [][]api.Object{some(), base(), append(strangers(), some()...), append(base(), g)} {
			l, g := roomy(l), roomy(g)
			keptL, keptG := own(whole(l)), own(whole(g))
			for i := -1; i <= len(g.Listeners); i++ {
				says(l, g, i)
			}
			first, second := listen.All(l, g), listen.All(l, g)
			kept := slices.Clone(second)
			first = append(first[:cap(first)], -1)
			clear(first)
			listen.All(l, g)
			if !slices.Equal(second, kept) {
				t.Fatalf("two answers of All have a list in common: %v, not %v", second, kept)
			}
			if !reflect.DeepEqual(whole(l), keptL) || !reflect.DeepEqual(whole(g), keptG) {
				t.Fatalf("what was handed in is another one, with %s", brief(g))
			}
		}
	}
}

// TestOnceMore: what was asked in between has nothing to do with what is answered.
func TestOnceMore(t *testing.T) {
	for range 3 {
		for _, g := range []api.Object{certs(), four(), gw(tls(80, ""), open(80, "")), gw(open(80, ""))} {
			for _, l := range [][]api.Object{some(), base(), nil} {
				checkWords(t, l, g)
			}
		}
	}
}

// TestMuch: however much is handed in, an answer comes soon.
func TestMuch(t *testing.T) {
	begin := time.Now()
	g := gw(open(80, ""))
	g.Listeners = slices.Repeat([]api.Listener{tls(80, ""), open(80, "")}, 1<<17)
	checkNothing(t, base(), g)
	g.Ref.Kind = api.RouteK
	checkNothing(t, base(), g)
	l := slices.Repeat([]api.Object{secret("web", "other", true), let("app", api.GatewayK, "ops", api.SecretK, "")}, 1<<14)
	if got := listen.All(slices.Concat(l, base()), gw(append(crowd(7), tls(443, ""))...)); len(got) != 8 {
		t.Errorf("behind many objects these are served: %v", got)
	}
	if took := time.Since(begin); took > 20*time.Second {
		t.Errorf("it took %v", took)
	}
}

// checkNothing: is nothing said of a gateway that may not be?
func checkNothing(t *testing.T, l []api.Object, g api.Object) {
	t.Helper()
	if len(listen.All(l, g)) != 0 {
		t.Error("some are served")
	}
	for _, i := range []int{0, 1, len(g.Listeners) - 1, len(g.Listeners)} {
		if got := says(l, g, i); got != (said{}) {
			t.Errorf("of %d this is said: %+v", i, got)
		}
	}
}

// FuzzListen holds the calls against the words at whatever numbers and texts: none panics, and what they answer fits together.
func FuzzListen(f *testing.F) {
	f.Add(5, 0, 80, 80, false, false, "web", "ours", "a.test", "a.test", "", "good", "app", uint8(3))
	f.Add(5, 1, 443, 443, true, true, "web", "ours", "a.test", "b.test", "app", "good", "web", uint8(15))
	f.Add(5, 2, 80, 80, true, false, "ops", "theirs", "", "*.test", "web", "", "ops", uint8(255))
	f.Add(1, -1, 0, 65536, true, true, "", "", "*", "A", "a.b", "B", "", uint8(1))
	f.Add(1<<32+5, 1<<40, -1, 1<<32, false, true, "\xff", ".", " ", "\x00", "/", "*", "-", uint8(0))
	f.Fuzz(func(t *testing.T, kind, place, port, other int, first, second bool, space, name, host, its, at, cert, comes string, which uint8) {
		g := gw(api.Listener{Port: port, TLS: first, Host: host}, api.Listener{Port: other, TLS: second, Host: its}, open(80, host), tls(port, ""))
		for i, x := range g.Listeners {
			if x.TLS {
				g.Listeners[i].Cert = ref(api.SecretK, at, cert)
			}
		}
		g.Ref, g.Class = ref(kind, space, "gw"), name
		near := at
		if near == "" {
			near = space
		}
		all := []api.Object{
			class(name, true), class(name, false), secret(near, cert, true), secret(near, cert, false),
			let(near, api.GatewayK, space, api.SecretK, cert), let(near, api.GatewayK, comes, api.SecretK, ""), g, class("ours", true),
		}
		var l []api.Object
		for i, o := range all {
			if which>>i&1 == 1 {
				l = append(l, o)
			}
		}
		fine := gw(g.Listeners[:2]...)
		fine.Ref.Space = "web"
		for _, x := range []api.Object{g, fine, gw(open(80, host), open(80, its)), gw(by(443, host, at, cert))} {
			checkWords(t, l, x)
			checkWords(t, append(base(), l...), x)
			if got := says(l, x, place); (place < 0 || place >= len(x.Listeners)) && (got.served || got.conflict != "" || got.cert != "") {
				t.Errorf("of %d this is said: %+v", place, got)
			}
		}
	})
}
