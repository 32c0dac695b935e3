package rr

import (
	"slices"

	"gazetteer/api"
	"gazetteer/clone"
	"gazetteer/name"
	"gazetteer/rdata"
)

// Same tells whether a and b are one set: in whatever order, and however often
// each data stands there.
func Same(a, b []api.Data) bool {
	return within(a, b, rdata.Same) && within(b, a, rdata.Same)
}

// Set answers what the records of list say that have the name n and the type
// kind, each data once, and the least of their TTLs.
func Set(list []api.RR, n []string, kind int) (set []api.Data, ttl int) {
	for _, r := range list {
		if r.Class != api.IN || r.Type != kind || !name.Equal(r.Name, n) {
			continue
		}
		// A record counts for the TTL also where it is left out of the set.
		if len(set) == 0 || r.TTL < ttl {
			ttl = r.TTL
		}
		if !has(set, r.Data, rdata.Same) {
			set = append(set, clone.Data(r.Data))
		}
	}
	return set, ttl
}

// Names answers the name and the type of each set that list has records of.
func Names(list []api.RR) []api.Question {
	var out []api.Question
	for _, r := range list {
		q := api.Question{Name: r.Name, Type: r.Type, Class: r.Class}
		if r.Class == api.IN && !has(out, q, asked) {
			q.Name = clone.List(r.Name)
			out = append(out, q)
		}
	}
	return out
}

// asked tells whether a and b, which are of one class, ask the same.
func asked(a, b api.Question) bool {
	return a.Type == b.Type && name.Equal(a.Name, b.Name)
}

// within tells whether each of a is alike one of b.
func within[T any](a, b []T, alike func(x, y T) bool) bool {
	return !slices.ContainsFunc(a, func(x T) bool { return !has(b, x, alike) })
}

// has tells whether one of list is alike x.
func has[T any](list []T, x T, alike func(x, y T) bool) bool {
	return slices.ContainsFunc(list, func(y T) bool { return alike(x, y) })
}
