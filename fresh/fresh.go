// Package fresh copies objects, things and stores, so that what is handed out has no list in common with what was handed in.
package fresh

import (
	"slices"

	"toll/api"
)

// Object is an object with lists of its own.
func Object(o api.Object) api.Object {
	o.Labels = slices.Clone(o.Labels)
	o.Ports = slices.Clone(o.Ports)
	o.Listeners = each(o.Listeners, listener)
	o.Parents = slices.Clone(o.Parents)
	o.Hosts = slices.Clone(o.Hosts)
	o.Rules = each(o.Rules, rule)
	o.From = slices.Clone(o.From)
	o.To = slices.Clone(o.To)
	return o
}

// Thing is a thing with lists of its own.
func Thing(x api.Stored) api.Stored {
	x.O = Object(x.O)
	x.Conds = slices.Clone(x.Conds)
	return x
}

// Store is a store with lists of its own.
func Store(s api.Store) api.Store {
	s.L = each(s.L, Thing)
	s.Log = slices.Clone(s.Log)
	return s
}

func listener(l api.Listener) api.Listener {
	l.Needs = each(l.Needs, need)
	return l
}

func need(n api.Need) api.Need {
	n.Vals = slices.Clone(n.Vals)
	return n
}

func rule(r api.Rule) api.Rule {
	r.Matches = each(r.Matches, match)
	r.Filters = slices.Clone(r.Filters)
	r.Backends = slices.Clone(r.Backends)
	return r
}

func match(m api.Match) api.Match {
	m.Head = slices.Clone(m.Head)
	m.Query = slices.Clone(m.Query)
	return m
}

// each is a list of its own, of copies that have theirs.
func each[T any](l []T, one func(T) T) []T {
	out := slices.Clone(l)
	for i, x := range out {
		out[i] = one(x)
	}
	return out
}
