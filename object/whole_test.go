package object_test

import (
	"reflect"
	"slices"
	"testing"

	"toll/api"
	"toll/dns"
	"toll/filter"
	"toll/host"
	"toll/label"
	"toll/object"
	"toll/rule"
)

// R3, R4, and all calls held against the chapter's words at whatever is handed in.

// wrong is objects that may not be.
func wrong() []api.Object {
	var out []api.Object
	for _, o := range some() {
		o.Ref.Name += " "
		out = append(out, o)
	}
	for _, kind := range kinds {
		o := full(kind)
		o.Good, o.Ports = !o.Good, append(o.Ports, 0)
		out = append(out, o)
	}
	return out
}

// roomy is an object of which each list has room behind its end, that holds something.
func roomy(o api.Object) api.Object {
	o = clone(o)
	addRoom(reflect.ValueOf(&o).Elem())
	return o
}

func addRoom(v reflect.Value) {
	switch v.Kind() {
	case reflect.Struct:
		for i := range v.NumField() {
			addRoom(v.Field(i))
		}
	case reflect.Slice:
		for i := range v.Len() {
			addRoom(v.Index(i))
		}
		if v.Len() > 0 {
			longer := reflect.AppendSlice(v.Slice(0, v.Len()), v.Slice(0, v.Len()))
			v.Set(longer.Slice3(0, v.Len(), longer.Len()))
		}
	}
}

// stretched is an object of which each list goes on to the end of its room.
func stretched(o api.Object) api.Object {
	stretch(reflect.ValueOf(&o).Elem())
	return o
}

func stretch(v reflect.Value) {
	switch v.Kind() {
	case reflect.Struct:
		for i := range v.NumField() {
			stretch(v.Field(i))
		}
	case reflect.Slice:
		v.Set(reflect.AppendSlice(reflect.MakeSlice(v.Type(), 0, v.Cap()), v.Slice(0, v.Cap())))
		for i := range v.Len() {
			stretch(v.Index(i))
		}
	}
}

// callAll calls all that takes an object.
func callAll(o, other api.Object) {
	object.MayRef(o.Ref)
	object.Order(o.Ref, other.Ref)
	object.May(o)
	object.Same(o, other)
	object.Same(other, o)
	object.Refs(o)
	object.Text(o.Ref)
}

func TestArgumentsStayAsTheyWere(t *testing.T) {
	for i, o := range slices.Concat(some(), wrong()) {
		given := roomy(o)
		kept := clone(stretched(given))
		for _, other := range some() {
			callAll(given, other)
		}
		callAll(given, given)
		if !reflect.DeepEqual(stretched(given), kept) {
			t.Errorf("object %d is changed", i)
		}
		if !object.Same(given, o) {
			t.Errorf("object %d is another one with room behind its lists", i)
		}
	}
}

// TestAnswersAreNew: what a caller does to an answer, he does to nothing that was handed in, nor to another answer.
func TestAnswersAreNew(t *testing.T) {
	for i, o := range slices.Concat(some(), []api.Object{routeWith(fullParents(), nil), gatewayWith(ref(api.SecretK, "app", "c"), ref(api.SecretK, "app", "c"))}) {
		given := roomy(o)
		kept := clone(stretched(given))
		first, second := object.Refs(given), object.Refs(given)
		want := slices.Clone(second)
		for k := range first[:cap(first)] {
			first[:cap(first)][k] = ref(9, "changed", "changed")
		}
		if !reflect.DeepEqual(stretched(given), kept) {
			t.Errorf("object %d changed with its refs", i)
		}
		if !slices.Equal(second, want) || !slices.Equal(object.Refs(given), want) {
			t.Errorf("refs of object %d changed with others", i)
		}
	}
}

// TestOnceMore: what was asked in between has nothing to do with what is answered.
func TestOnceMore(t *testing.T) {
	o := full(api.RouteK)
	want := object.Refs(o)
	for i, other := range slices.Concat(some(), wrong()) {
		callAll(other, o)
		object.Parse("6 web/a")
		object.Parse(endless)
		if !object.May(o) || !slices.Equal(object.Refs(o), want) || object.May(api.Object{}) {
			t.Fatalf("behind object %d it is another answer", i)
		}
	}
}

// every: is it so of each, and are there so many?
func every[T any](l []T, least, most int, so func(x T) bool) bool {
	for _, x := range l {
		if !so(x) {
			return false
		}
	}
	return least <= len(l) && len(l) <= most
}

// distinct is how many there are that differ.
func distinct[T any, K comparable](l []T, key func(x T) K) int {
	seen := map[K]bool{}
	for _, x := range l {
		seen[key(x)] = true
	}
	return len(seen)
}

func itself[T any](x T) T { return x }

func freeByWords(s string) bool { return s == "" || labelByWords(s) }

// mayByWords is the chapter's words of objects said once more.
func mayByWords(o api.Object) bool {
	kind := o.Ref.Kind
	rest := hollowOut(o)
	rest.Ref = api.Ref{}
	none := hollowOut(api.Object{})
	var ok bool
	switch kind {
	case api.ClassK, api.SecretK:
		rest.Good = false
		ok = true
	case api.SpaceK:
		rest.Labels = none.Labels
		ok = label.May(o.Labels)
	case api.ServiceK:
		rest.Ports = none.Ports
		ok = every(o.Ports, 1, 8, func(n int) bool { return 0 < n && n < 65536 }) && slices.IsSortedFunc(o.Ports, func(a, b int) int { return a - b }) && distinct(o.Ports, itself) == len(o.Ports)
	case api.GatewayK:
		rest.Class, rest.Listeners = "", none.Listeners
		ok = nameByWords(o.Class) && every(o.Listeners, 1, 8, listenerByWords) && distinct(o.Listeners, func(l api.Listener) string { return l.Name }) == len(o.Listeners)
	case api.RouteK:
		rest.Parents, rest.Hosts, rest.Rules = none.Parents, none.Hosts, none.Rules
		ok = routeByWords(o)
	case api.GrantK:
		rest.From, rest.To = none.From, none.To
		kinded := func(s api.Side) bool { return 0 < s.Kind && s.Kind < 8 }
		ok = every(o.From, 1, 4, func(s api.Side) bool { return kinded(s) && labelByWords(s.Space) && s.Name == "" }) &&
			every(o.To, 1, 4, func(s api.Side) bool { return kinded(s) && s.Space == "" && (s.Name == "" || nameByWords(s.Name)) })
	}
	return ok && refByWords(o.Ref) && reflect.DeepEqual(rest, none)
}

func refByWords(r api.Ref) bool {
	switch r.Kind {
	case 1:
		return r.Space == "" && nameByWords(r.Name)
	case 2:
		return r.Space == "" && labelByWords(r.Name)
	case 3, 4, 5, 6, 7:
		return labelByWords(r.Space) && nameByWords(r.Name)
	}
	return false
}

func routeByWords(o api.Object) bool {
	free := func(n int) bool { return 0 <= n && n < 65536 }
	parent := func(p api.Parent) bool {
		return freeByWords(p.Space) && nameByWords(p.Name) && freeByWords(p.Section) && free(p.Port)
	}
	backend := func(b api.Backend) bool {
		return 0 < b.Ref.Kind && b.Ref.Kind < 8 && freeByWords(b.Ref.Space) && nameByWords(b.Ref.Name) && free(b.Port) && 0 <= b.Weight && b.Weight < 1001
	}
	return every(o.Parents, 0, 4, parent) && distinct(o.Parents, itself) == len(o.Parents) &&
		every(o.Hosts, 0, 4, func(p string) bool { return p != "" && host.May(p) }) && distinct(o.Hosts, itself) == len(o.Hosts) &&
		every(o.Rules, 0, 6, func(r api.Rule) bool {
			return every(r.Matches, 0, 4, rule.May) && filter.All(r.Filters) && every(r.Backends, 0, 4, backend)
		})
}

// TestMayByWords has each object that may be, with each change to one place.
func TestMayByWords(t *testing.T) {
	var may, not int
	for _, kind := range kinds {
		for _, given := range []api.Object{least(kind), full(kind)} {
			o := clone(given)
			eachChange(reflect.ValueOf(&o).Elem(), "", func(where string) {
				if object.May(o) != mayByWords(o) {
					t.Fatalf("kind %d%s: May is %t", kind, where, object.May(o))
				}
				if object.May(o) {
					may++
				} else {
					not++
				}
			})
		}
	}
	if may < 100 || not < 100 {
		t.Errorf("so many may be: %d, and not: %d", may, not)
	}
}

// FuzzObject holds the calls against the words at whatever texts and numbers: none panics, and what they answer fits together.
func FuzzObject(f *testing.F) {
	f.Add(5, "web", "gw", "ours", "cert", 443, 2, true, "6 web/a")
	f.Add(6, "app", "r", "web", "api", 80, 3, false, "1 /a.b")
	f.Add(1, "", "x", "", "*.test", 0, 1000, true, "2 /a.b")
	f.Add(7, "web", "", "a.b", "A", 65536, 1001, false, "8 web/a")
	f.Add(-1, "\xff", " ", label21, name61, -1, 1<<40, true, "6 /\xff")
	f.Fuzz(func(t *testing.T, kind int, a, b, c, d string, m, n int, yes bool, s string) {
		side, cert := api.Side{Kind: n, Space: c, Name: d}, ref(n, a, d)
		listeners := []api.Listener{{Name: a, Port: m, TLS: yes, Host: d, Cert: cert, From: n}, {Name: c, Port: 80, TLS: true, Cert: ref(api.SecretK, c, d)}}
		parents := []api.Parent{{Space: c, Name: d, Port: m}, {Name: b, Section: a}}
		rules := []api.Rule{{Backends: []api.Backend{{Ref: cert, Port: m, Weight: n}, {Ref: ref(kind, c, b)}}}, {Backends: []api.Backend{{Ref: ref(n, "", c), Port: n, Weight: m}}}}
		r := ref(kind, a, b)
		objects := []api.Object{
			{Ref: r}, {Ref: r, Good: yes}, {Ref: r, Labels: []api.Pair{{Name: c, Val: d}}}, {Ref: r, Ports: []int{m, n}}, {Ref: r, Ports: []int{n}},
			{Ref: r, Class: c, Listeners: listeners[:1]}, {Ref: r, Class: d, Listeners: listeners[1:]}, {Ref: r, Class: c, Listeners: listeners},
			{Ref: r, Parents: parents[1:]}, {Ref: r, Parents: parents, Hosts: []string{c, d}, Rules: rules}, {Ref: r, Hosts: []string{d}, Rules: rules[1:]}, {Ref: r, Rules: rules[:1]},
			{Ref: r, From: []api.Side{{Kind: n, Space: c}}, To: []api.Side{{Kind: m, Name: d}}}, {Ref: r, From: []api.Side{side}, To: []api.Side{side}},
		}
		for _, o := range objects {
			for _, kind := range append(kinds, kind) {
				if o.Ref.Kind = kind; object.May(o) != mayByWords(o) {
					t.Errorf("May of %s is %t", brief(o), object.May(o))
				}
				checkWords(t, o)
				checkFuzzedRef(t, o.Ref)
			}
			for _, other := range objects {
				if object.Same(o, other) != plainSame(o, other) {
					t.Errorf("Same of %s and %s is %t", brief(o), brief(other), object.Same(o, other))
				}
			}
		}
		checkParse(t, s)
		checkParse(t, a+" "+b+"/"+c)
		checkParse(t, "6 "+a+"/"+b)
	})
}

func checkFuzzedRef(t *testing.T, r api.Ref) {
	t.Helper()
	if object.MayRef(r) != refByWords(r) {
		t.Errorf("MayRef(%s) is %t", brief(r), object.MayRef(r))
	}
	s, err := object.Text(r)
	if (err == api.OK) != refByWords(r) || err != api.OK && (err != api.ErrArg || s != "") {
		t.Errorf("Text(%s): %.80q, %d", brief(r), s, err)
	}
	if back, e := object.Parse(s); err == api.OK && (back != r || e != api.OK) {
		t.Errorf("Parse(%q): %v, %d", s, back, e)
	}
	if key, e := dns.Key(r.Space, r.Name); err == api.OK && (e != api.OK || s[1:] != " "+key) {
		t.Errorf("Text(%s): %q", brief(r), s)
	}
}
