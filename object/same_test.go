package object_test

import (
	"fmt"
	"reflect"
	"slices"
	"testing"

	"toll/api"
	"toll/object"
)

// P9.1: Same.

// all is an object, that may not be, with as much of each part as any kind may have.
func all() api.Object {
	o := full(api.RouteK)
	o.Good, o.Labels, o.Ports = true, full(api.SpaceK).Labels, full(api.ServiceK).Ports
	o.Class, o.Listeners = full(api.GatewayK).Class, full(api.GatewayK).Listeners
	o.From, o.To = full(api.GrantK).From, full(api.GrantK).To
	return o
}

// some is objects of each kind, few and many parts of them, and one with parts of all kinds.
func some() []api.Object {
	out := []api.Object{{}, all()}
	for _, kind := range kinds {
		out = append(out, least(kind), full(kind))
	}
	return out
}

// eachChange makes each change to one place of a value that makes it another one, visits it, and takes it back.
func eachChange(v reflect.Value, where string, visit func(where string)) {
	try := func(how string, other any) {
		kept := reflect.New(v.Type()).Elem()
		kept.Set(v)
		v.Set(reflect.ValueOf(other).Convert(v.Type()))
		visit(where + ": " + how)
		v.Set(kept)
	}
	switch v.Kind() {
	case reflect.Bool:
		try("turned", !v.Bool())
	case reflect.Int:
		n := int(v.Int())
		for _, other := range []int{n + 1, n - 1, -n - 1, n + 1<<32, n + 1<<16, n + 256} {
			try(fmt.Sprint(other), other)
		}
	case reflect.String:
		s := v.String()
		for _, other := range []string{s + "x", s + "\x00", "x" + s, "\xff"} {
			try(other, other)
		}
		if s != "" {
			try("none", "")
			try("its end cut", s[:len(s)-1])
			try("another end", s[:len(s)-1]+"\x01")
		}
	case reflect.Struct:
		for i := range v.NumField() {
			eachChange(v.Field(i), where+"."+v.Type().Field(i).Name, visit)
		}
	case reflect.Slice:
		eachChangeOfList(v, where, visit, try)
	}
}

func eachChangeOfList(v reflect.Value, where string, visit func(where string), try func(how string, other any)) {
	zero := reflect.New(v.Type().Elem()).Elem()
	try("one more", reflect.Append(clip(v), zero).Interface())
	if v.Len() == 0 {
		return
	}
	try("none", reflect.Zero(v.Type()).Interface())
	try("the last one twice", reflect.Append(clip(v), v.Index(v.Len()-1)).Interface())
	swap := reflect.Swapper(v.Interface())
	for i := range v.Len() {
		less := reflect.AppendSlice(clip(v.Slice(0, i)), v.Slice(i+1, v.Len()))
		try(fmt.Sprint("without ", i), less.Interface())
		for k := range i {
			if reflect.DeepEqual(v.Index(i).Interface(), v.Index(k).Interface()) {
				continue
			}
			swap(i, k)
			visit(fmt.Sprint(where, ": ", i, " for ", k))
			swap(i, k)
		}
		eachChange(v.Index(i), fmt.Sprint(where, " ", i), visit)
	}
}

// clip is a list without room behind its end, so that what is added is added to another one.
func clip(v reflect.Value) reflect.Value { return v.Slice3(0, v.Len(), v.Len()) }

func checkSame(t *testing.T, a, b api.Object, want bool, where string) {
	t.Helper()
	if object.Same(a, b) != want || object.Same(b, a) != want {
		t.Errorf("%s: Same is %t, the other way round %t", where, object.Same(a, b), object.Same(b, a))
	}
}

func TestSameOfItself(t *testing.T) {
	for i, o := range some() {
		checkSame(t, o, o, true, fmt.Sprint(i))
		checkSame(t, o, clone(o), true, fmt.Sprint(i, ", with lists of its own"))
	}
}

// TestSameOfOthers: objects that differ in one place are not the same, wherever that is.
func TestSameOfOthers(t *testing.T) {
	changes := 0
	for i, o := range some() {
		other := clone(o)
		eachChange(reflect.ValueOf(&other).Elem(), fmt.Sprint(i), func(where string) {
			changes++
			checkSame(t, o, other, false, where)
		})
		if !reflect.DeepEqual(o, other) {
			t.Fatal("a change was not taken back")
		}
	}
	if changes < 1000 {
		t.Errorf("only %d changes", changes)
	}
}

// TestSamePairs: of different objects no two are the same.
func TestSamePairs(t *testing.T) {
	l := some()
	for i, a := range l {
		for k, b := range l {
			checkSame(t, a, b, plainSame(a, b), fmt.Sprint(i, ", ", k))
		}
	}
}

// plainSame: are two objects the same, if a list without elements is none?
func plainSame(a, b api.Object) bool {
	return reflect.DeepEqual(hollowOut(a), hollowOut(b))
}

// hollowOut is an object in which each list that is none is one without elements.
func hollowOut(o api.Object) api.Object {
	o = clone(o)
	fillNils(reflect.ValueOf(&o).Elem())
	return o
}

func fillNils(v reflect.Value) {
	switch v.Kind() {
	case reflect.Struct:
		for i := range v.NumField() {
			fillNils(v.Field(i))
		}
	case reflect.Slice:
		if v.IsNil() {
			v.Set(reflect.MakeSlice(v.Type(), 0, 0))
		}
		for i := range v.Len() {
			fillNils(v.Index(i))
		}
	}
}

// TestSameWithoutElements: a list that is none, and one without elements, are the same, at each depth.
func TestSameWithoutElements(t *testing.T) {
	for i, o := range append(some(), api.Object{
		Listeners: []api.Listener{{}, {Needs: make([]api.Need, 1)}},
		Rules:     []api.Rule{{}, {Matches: make([]api.Match, 1)}},
	}) {
		hollow := hollowOut(o)
		checkSame(t, o, hollow, true, fmt.Sprint(i))
		if object.May(o) != object.May(hollow) || !slices.Equal(object.Refs(o), object.Refs(hollow)) {
			t.Errorf("%d: with lists without elements it is another one", i)
		}
	}
}

// TestSameOfPartsElsewhere: what one object has in one part, and another one in another part of the same form, is not the same.
func TestSameOfPartsElsewhere(t *testing.T) {
	sides := []api.Side{{Kind: 3, Space: "a"}}
	pairs := []api.Pair{{Name: "a", Val: "1"}}
	inMatch := func(m api.Match) api.Object {
		return api.Object{Rules: []api.Rule{{Matches: []api.Match{m}}}}
	}
	for i, c := range [][2]api.Object{
		{{From: sides}, {To: sides}},
		{{From: slices.Repeat(sides, 2), To: sides}, {From: sides, To: slices.Repeat(sides, 2)}},
		{{Hosts: []string{"a"}}, {Class: "a"}},
		{{Ref: ref(1, "a", "")}, {Ref: ref(1, "", "a")}},
		{{Ref: ref(1, "a", "bc")}, {Ref: ref(1, "ab", "c")}},
		{{Hosts: []string{"ab", "c"}}, {Hosts: []string{"a", "bc"}}},
		{{Labels: []api.Pair{{Name: "a"}}}, {Labels: []api.Pair{{Val: "a"}}}},
		{{Labels: pairs}, inMatch(api.Match{Head: pairs})},
		{inMatch(api.Match{Head: pairs}), inMatch(api.Match{Query: pairs})},
		{{Listeners: []api.Listener{{Name: "a"}}}, {Listeners: []api.Listener{{Host: "a"}}}},
		{{Parents: []api.Parent{{Name: "a"}}}, {Parents: []api.Parent{{Section: "a"}}}},
		{{Rules: make([]api.Rule, 2)}, {Rules: make([]api.Rule, 1)}},
		{{Rules: []api.Rule{{Backends: make([]api.Backend, 2)}, {}}}, {Rules: []api.Rule{{Backends: make([]api.Backend, 1)}, {Backends: make([]api.Backend, 1)}}}},
		{{Rules: []api.Rule{{Matches: make([]api.Match, 1)}}}, {Rules: []api.Rule{{Backends: make([]api.Backend, 1)}}}},
		{{Rules: []api.Rule{{Filters: make([]api.Filter, 1)}}}, {Rules: []api.Rule{{Backends: make([]api.Backend, 1)}}}},
	} {
		checkSame(t, c[0], c[1], false, fmt.Sprint(i))
	}
}

// TestSameFold: texts are compared octet by octet, also where another layer asks for less.
func TestSameFold(t *testing.T) {
	for i, c := range [][2]api.Filter{
		{{Kind: api.SetF, Name: "a", Val: "1"}, {Kind: api.SetF, Name: "A", Val: "1"}},
		{{Kind: api.DropF, Name: "a"}, {Kind: api.DropF, Name: "a", Val: "1"}},
		{{Kind: api.AwayF, Code: 301}, {Kind: api.AwayF, Code: 302}},
	} {
		a := api.Object{Rules: []api.Rule{{Filters: []api.Filter{c[0]}}}}
		b := api.Object{Rules: []api.Rule{{Filters: []api.Filter{c[1]}}}}
		checkSame(t, a, b, false, fmt.Sprint(i))
	}
}
