package store_test

import (
	"slices"

	"toll/api"
	"toll/object"
)

// The chapter's words said once more: stores as what they have by refs.

// mayByWords: may a store be?
func mayByWords(s api.Store) bool {
	const most = 1<<40 - 1
	if s.Version < 0 || s.Version > most || s.Floor < 0 || s.Floor > s.Version || len(s.Log) > 16 || len(s.L) > 40 {
		return false
	}
	next := s.Floor + 1
	for _, e := range s.Log {
		if e.Version != next || !object.MayRef(e.Ref) {
			return false
		}
		next++
	}
	if next != s.Version+1 {
		return false
	}
	for i, x := range s.L {
		if !object.May(x.O) || x.Born < 1 || x.Version < x.Born || x.Version > s.Version || x.Gen < 1 || x.Gen-1 > x.Version-x.Born || len(x.Conds) > 40 {
			return false
		}
		for _, behind := range s.L[i+1:] {
			if object.Order(x.O.Ref, behind.O.Ref) != -1 {
				return false
			}
		}
	}
	return true
}

// things is what a store has, by refs.
func things(s api.Store) map[api.Ref]api.Stored {
	m := map[api.Ref]api.Stored{}
	for _, x := range s.L {
		m[x.O.Ref] = x
	}
	return m
}

// changedByWords is a store behind a change: the thing of that ref is x then, or gone, if there is no x.
func changedByWords(s api.Store, r api.Ref, x *api.Stored) (api.Store, api.Errno) {
	if s.Version >= 1<<40-1 {
		return s, api.ErrLarge
	}
	m := things(s)
	out := api.Store{Version: s.Version + 1, Floor: s.Floor}
	if delete(m, r); x != nil {
		x.Version = out.Version
		m[r] = *x
	}
	for _, x := range m {
		out.L = append(out.L, x)
	}
	slices.SortFunc(out.L, func(a, b api.Stored) int { return object.Order(a.O.Ref, b.O.Ref) })
	for _, e := range append(slices.Clone(s.Log), api.Event{Version: out.Version, Ref: r}) {
		if e.Version > out.Version-16 {
			out.Log = append(out.Log, e)
		} else {
			out.Floor = e.Version
		}
	}
	return out, api.OK
}

func createByWords(s api.Store, o api.Object) (api.Store, api.Errno) {
	if !mayByWords(s) || !object.May(o) {
		return s, api.ErrArg
	}
	if _, there := things(s)[o.Ref]; there {
		return s, api.ErrThere
	}
	if len(s.L) >= 40 {
		return s, api.ErrLarge
	}
	return changedByWords(s, o.Ref, &api.Stored{O: o, Gen: 1, Born: s.Version + 1})
}

func updateByWords(s api.Store, o api.Object, version int) (api.Store, api.Errno) {
	if !mayByWords(s) || !object.May(o) {
		return s, api.ErrArg
	}
	x, there := things(s)[o.Ref]
	switch {
	case !there:
		return s, api.ErrNone
	case version != 0 && version != x.Version:
		return s, api.ErrStale
	case alike(x.O, o):
		return s, api.OK
	}
	x.O = o
	x.Gen++
	return changedByWords(s, o.Ref, &x)
}

func deleteByWords(s api.Store, r api.Ref, version int) (api.Store, api.Errno) {
	if !mayByWords(s) {
		return s, api.ErrArg
	}
	x, there := things(s)[r]
	switch {
	case !there:
		return s, api.ErrNone
	case version != 0 && version != x.Version:
		return s, api.ErrStale
	}
	return changedByWords(s, r, nil)
}

func reportByWords(s api.Store, r api.Ref, version int, c []api.Cond) (api.Store, api.Errno) {
	if !mayByWords(s) || len(c) > 40 {
		return s, api.ErrArg
	}
	x, there := things(s)[r]
	switch {
	case !there:
		return s, api.ErrNone
	case version != x.Version:
		return s, api.ErrStale
	case alike(x.Conds, c):
		return s, api.OK
	}
	x.Conds = c
	return changedByWords(s, r, &x)
}
