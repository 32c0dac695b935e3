package wname

import (
	"gazetteer/api"
	"gazetteer/num"
)

// Get answers the name that begins at at of b, and the place behind it.
func Get(b []byte, at int) (n []string, next int, e api.Errno) {
	r := reader{b: b, at: at, began: at, size: 1}
	for !r.done && e == api.OK {
		e = r.step()
	}
	if e != api.OK {
		return nil, 0, e
	}
	return r.labels, r.next, api.OK
}

// reader is a name of which some is read.
type reader struct {
	b      []byte
	at     int // where the next byte is read
	began  int // only below it may a pointer lead: so the reading ends
	next   int // the place behind the name; 0 till a pointer or the end is met
	size   int // of the labels, as layer 2 tells it
	labels []string
	done   bool
}

// step reads a label, a pointer or the end.
func (r *reader) step() api.Errno {
	// Errors of num.Get are those of this call: of a place below 0 ErrArg.
	first, e := num.Get(r.b, r.at, 1)
	switch {
	case e != api.OK:
		return e
	case first == 0:
		r.behind(r.at + 1)
		r.done = true
		return api.OK
	case first <= api.MaxLabel:
		return r.label(r.at+1, first)
	case first < pointer>>8:
		return api.ErrName
	}
	return r.follow()
}

// label reads the bytes of a label.
func (r *reader) label(from, size int) api.Errno {
	if from > len(r.b)-size {
		return api.ErrShort
	}
	r.size += 1 + size
	if r.size > api.MaxName {
		return api.ErrName
	}
	r.at = from + size
	r.labels = append(r.labels, string(r.b[from:r.at]))
	return api.OK
}

// follow goes where a pointer leads.
func (r *reader) follow() api.Errno {
	n, e := num.Get(r.b, r.at, 2)
	if e != api.OK {
		return e
	}
	to := n - pointer
	if to >= r.began {
		return api.ErrLoop
	}
	r.behind(r.at + 2)
	r.at, r.began = to, to
	return api.OK
}

// behind keeps where the name ends that began at the place that was asked for:
// what is read behind a pointer stands elsewhere.
func (r *reader) behind(place int) {
	if r.next == 0 {
		r.next = place
	}
}
