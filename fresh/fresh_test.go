package fresh_test

import (
	"reflect"
	"testing"

	"toll/api"
	"toll/fresh"
)

// fill gives each part of a value something of its own, and each list n elements and room for more.
func fill(v reflect.Value, n int, next *int) {
	*next++
	switch v.Kind() {
	case reflect.Bool:
		v.SetBool(true)
	case reflect.Int:
		v.SetInt(int64(*next))
	case reflect.String:
		v.SetString("s" + string(rune('a'+*next%26)))
	case reflect.Struct:
		for i := range v.NumField() {
			fill(v.Field(i), n, next)
		}
	case reflect.Slice:
		v.Set(reflect.MakeSlice(v.Type(), n, n+3))
		for i := range n {
			fill(v.Index(i), n, next)
		}
	}
}

func filled[T any](n int) T {
	var x T
	next := 0
	fill(reflect.ValueOf(&x).Elem(), n, &next)
	return x
}

// room is the memory of a list, up to the end of its room.
type room struct{ from, to uintptr }

// rooms is the memory of all lists of a value, all the way down.
func rooms(v reflect.Value) []room {
	var out []room
	switch v.Kind() {
	case reflect.Struct:
		for i := range v.NumField() {
			out = append(out, rooms(v.Field(i))...)
		}
	case reflect.Slice:
		if v.Cap() > 0 {
			out = append(out, room{v.Pointer(), v.Pointer() + uintptr(v.Cap())*v.Type().Elem().Size()})
		}
		for i := range v.Len() {
			out = append(out, rooms(v.Index(i))...)
		}
	}
	return out
}

// check: is the copy the same as it was, and has it no list in common with that, nor two lists one?
func check[T any](t *testing.T, x T, copied func(T) T) {
	t.Helper()
	got := copied(x)
	if !reflect.DeepEqual(got, x) {
		t.Errorf("%T is copied as another one", x)
	}
	own := rooms(reflect.ValueOf(got))
	for i, a := range own {
		for _, b := range append(rooms(reflect.ValueOf(x)), own[:i]...) {
			if a.from < b.to && b.from < a.to {
				t.Errorf("%T has a list in common", x)
			}
		}
	}
}

func TestCopies(t *testing.T) {
	for n := range 4 {
		check(t, filled[api.Object](n), fresh.Object)
		check(t, filled[api.Stored](n), fresh.Thing)
		check(t, filled[api.Store](n), fresh.Store)
	}
	check(t, api.Object{}, fresh.Object)
	check(t, api.Stored{}, fresh.Thing)
	check(t, api.Store{}, fresh.Store)
}

// TestCopiesOfOneList: what is one list in several places is copied as several ones.
func TestCopiesOfOneList(t *testing.T) {
	o := filled[api.Object](2)
	o.From = o.To
	o.Listeners[0].Needs = o.Listeners[1].Needs
	o.Rules[0].Matches[1].Query = o.Labels
	o.Rules[1] = o.Rules[0]
	check(t, o, fresh.Object)
	x := filled[api.Stored](2)
	x.O = o
	check(t, x, fresh.Thing)
	check(t, api.Store{L: []api.Stored{x, x}}, fresh.Store)
}
