package listen_test

import (
	"slices"
	"testing"

	"toll/api"
	"toll/listen"
	"toll/object"
)

// P12.1: Cert.

func TestCertOfItsOwnSpace(t *testing.T) {
	good, bad := secret("web", "good", true), secret("web", "good", false)
	elsewhere, named := secret("app", "good", true), secret("web", "goods", true)
	for _, c := range []struct {
		what string
		l    []api.Object
		want string
	}{
		{"it is there", []api.Object{good}, ""},
		{"it is there behind others", []api.Object{elsewhere, named, good}, ""},
		{"no objects", nil, api.BadCert},
		{"not one object", []api.Object{}, api.BadCert},
		{"it is not there", []api.Object{elsewhere, named, class("ours", true)}, api.BadCert},
		{"it is not Good", []api.Object{bad}, api.BadCert},
		{"it may not be", []api.Object{wrong(good)}, api.BadCert},
		{"it is neither", []api.Object{wrong(bad)}, api.BadCert},
		{"two, the first one Good", []api.Object{good, bad}, ""},
		{"two, the second one Good", []api.Object{bad, good}, api.BadCert},
		{"two, the first one may be", []api.Object{good, wrong(good)}, ""},
		{"two, the second one may be", []api.Object{wrong(good), good}, api.BadCert},
		{"another one is not Good", []api.Object{secret("web", "goods", false), secret("app", "good", false), good}, ""},
		{"another kind of that name", []api.Object{{Ref: ref(api.ServiceK, "web", "good"), Ports: []int{443}}}, api.BadCert},
		{"another kind of that name, that has no Good", []api.Object{{Ref: ref(api.ServiceK, "web", "good"), Good: true}}, api.BadCert},
		{"a grant in its own space", []api.Object{let("web", api.GatewayK, "web", api.SecretK, "good")}, api.BadCert},
		{"a secret of no space", []api.Object{secret("", "good", true)}, api.BadCert},
	} {
		for _, space := range []string{"", "web"} {
			g := gw(open(80, ""), by(443, "", space, "good"))
			checkSays(t, c.what, c.l, g, 0, "", "")
			checkSays(t, c.what, c.l, g, 1, "", c.want)
		}
	}
}

// TestCertOfAnotherSpace: with a grant there it goes by what it is, without one it is NotLet, whatever it is.
func TestCertOfAnotherSpace(t *testing.T) {
	good, bad := secret("app", "good", true), secret("app", "good", false)
	lets := let("app", api.GatewayK, "web", api.SecretK, "good")
	g := gw(by(443, "", "app", "good"))
	for _, c := range []struct {
		what string
		lets []api.Object
		want bool
	}{
		{"no grant", nil, false},
		{"one that names it", []api.Object{lets}, true},
		{"one to all names", []api.Object{let("app", api.GatewayK, "web", api.SecretK, "")}, true},
		{"one that names another one", []api.Object{let("app", api.GatewayK, "web", api.SecretK, "goods")}, false},
		{"one to another kind", []api.Object{let("app", api.GatewayK, "web", api.ServiceK, "")}, false},
		{"one from another kind", []api.Object{let("app", api.RouteK, "web", api.SecretK, "")}, false},
		{"one from another space", []api.Object{let("app", api.GatewayK, "ops", api.SecretK, "")}, false},
		{"one from the certificate's space", []api.Object{let("app", api.GatewayK, "app", api.SecretK, "")}, false},
		{"one in the gateway's space", []api.Object{let("web", api.GatewayK, "web", api.SecretK, "")}, false},
		{"one in a third space", []api.Object{let("ops", api.GatewayK, "web", api.SecretK, "")}, false},
		{"one that may not be", []api.Object{wrong(lets)}, false},
		{"one that may not be, and one that names it", []api.Object{wrong(lets), lets}, true},
	} {
		for _, l := range []struct {
			what  string
			l     []api.Object
			fault string
		}{
			{"good", []api.Object{good}, ""},
			{"not there", nil, api.BadCert},
			{"not Good", []api.Object{bad}, api.BadCert},
			{"may not be", []api.Object{wrong(good)}, api.BadCert},
			{"the second one is", []api.Object{bad, good}, api.BadCert},
			{"the first one is", []api.Object{good, bad}, ""},
			{"good in the gateway's space", []api.Object{secret("web", "good", true), bad}, api.BadCert},
			{"not Good in the gateway's space", []api.Object{secret("web", "good", false), good}, ""},
		} {
			want := api.NotLet
			if c.want {
				want = l.fault
			}
			what := c.what + ", and a secret: " + l.what
			checkSays(t, what, slices.Concat(c.lets, l.l), g, 0, "", want)
			checkSays(t, what, slices.Concat(l.l, c.lets), g, 0, "", want)
		}
	}
}

// TestCertByTheGatewaysSpace: a certificate without a space is in whatever space the gateway is.
func TestCertByTheGatewaysSpace(t *testing.T) {
	g := gw(by(443, "", "", "good"), by(444, "", "web", "good"), by(445, "", "app", "good"))
	l := []api.Object{secret("web", "good", true), secret("app", "good", false)}
	checkSays(t, "in web", l, g, 0, "", "")
	checkSays(t, "in web", l, g, 1, "", "")
	checkSays(t, "in web", l, g, 2, "", api.NotLet)
	g.Ref.Space = "app"
	checkSays(t, "in app", l, g, 0, "", api.BadCert)
	checkSays(t, "in app", l, g, 1, "", api.NotLet)
	checkSays(t, "in app", l, g, 2, "", api.BadCert)
	l = append(l, let("web", api.GatewayK, "app", api.SecretK, "good"))
	checkSays(t, "in app, with a grant", l, g, 1, "", "")
}

// TestCertWithoutMore: neither the class nor a conflict has to do with a certificate.
func TestCertWithoutMore(t *testing.T) {
	g := gw(tls(443, ""), tls(443, ""), open(443, ""), by(443, "", "app", "good"), by(443, "", "", "none"))
	want := []string{"", "", "", api.NotLet, api.BadCert}
	for _, l := range [][]api.Object{base(), base()[1:], {class("ours", false), base()[1]}} {
		for i, w := range want {
			checkSays(t, "all conflict", l, g, i, api.Protocols, w)
		}
	}
}

// P12.2: Served and All.

// checkServed: are just these served?
func checkServed(t *testing.T, what string, l []api.Object, g api.Object, want ...int) {
	t.Helper()
	if !object.May(g) {
		t.Errorf("%s: that may not be", what)
	}
	if got := listen.All(l, g); !slices.Equal(got, want) {
		t.Errorf("%s: All is %v, not %v", what, got, want)
	}
	for i := range g.Listeners {
		if got := listen.Served(l, g, i); got != slices.Contains(want, i) {
			t.Errorf("%s: that %d is served is %t", what, i, got)
		}
	}
}

func TestServed(t *testing.T) {
	checkServed(t, "one", base(), gw(open(80, "")), 0)
	checkServed(t, "one by TLS", base(), gw(tls(443, "")), 0)
	checkServed(t, "all of eight", base(), gw(crowd(8)...), 0, 1, 2, 3, 4, 5, 6, 7)
	checkServed(t, "rising, with falling ports", base(), gw(tls(500, ""), open(400, ""), tls(300, ""), open(200, "b.test"), open(200, "a.test")), 0, 1, 2, 3, 4)
	// Each reason alone.
	checkServed(t, "not ours", base()[1:], gw(open(80, ""), tls(443, "")))
	checkServed(t, "ours is not Good", append([]api.Object{class("ours", false)}, base()...), gw(open(80, ""), tls(443, "")))
	checkServed(t, "two hostnames", base(), gw(open(80, ""), open(81, ""), open(80, ""), tls(443, "")), 1, 3)
	checkServed(t, "two protocols", base(), gw(open(80, ""), open(81, ""), tls(80, "a.test"), tls(443, "")), 1, 3)
	checkServed(t, "a secret that is not there", base(), gw(by(443, "", "", "none"), open(81, ""), tls(444, "")), 1, 2)
	checkServed(t, "no secret", base()[:1], gw(tls(443, ""), open(81, ""), tls(444, "")), 1)
	checkServed(t, "a secret that is not Good", append([]api.Object{secret("web", "good", false)}, base()...), gw(tls(443, ""), open(81, "")), 1)
	checkServed(t, "a secret that is not let", append(base(), secret("app", "good", true)), gw(open(80, ""), by(443, "", "app", "good")), 0)
	checkServed(t, "a secret that is let", append(base(), secret("app", "good", true), let("app", api.GatewayK, "web", api.SecretK, "good")), gw(open(80, ""), by(443, "", "app", "good")), 0, 1)
	// Several at once.
	checkServed(t, "all of them", nil, gw(by(443, "", "app", "good"), open(443, "")))
	checkServed(t, "a certificate that does not go conflicts, too", base(), gw(by(443, "", "", "none"), tls(443, ""), open(80, "")), 2)
	checkServed(t, "a certificate that does not go conflicts with one without", base(), gw(by(80, "", "", "none"), open(80, "a.test"), open(81, "")), 2)
	checkServed(t, "the chapter's", base(), four(), 2, 3)
	checkServed(t, "the chapter's, without a secret", base()[:1], four(), 2)
}
