package msg

import (
	"slices"

	"gazetteer/api"
	"gazetteer/rr"
	"gazetteer/wname"
)

// Encode answers m's bytes.
func Encode(m api.Msg) ([]byte, api.Errno) {
	if !Sound(m) {
		return nil, api.ErrForm
	}
	if m.Edns {
		// Clip, since the room behind the list that was handed in is not ours.
		m.Extra = append(slices.Clip(m.Extra), api.RR{Type: api.OPT, Class: m.Size})
	}
	w := wname.New()
	putHead(w, m)
	for _, q := range m.Questions {
		putQuestion(w, q)
	}
	for _, s := range sections(&m) {
		for _, r := range *s {
			if e := rr.Put(w, r); e != api.OK {
				return nil, e
			}
		}
	}
	if w.Len() > api.MaxMsg {
		return nil, api.ErrLarge
	}
	return w.Bytes(), api.OK
}

// putHead writes what stands ahead of m's Questions; m is sound, but for an OPT
// record, which counts as the others do.
func putHead(w *wname.Writer, m api.Msg) {
	w.Num(m.ID, numSize)
	w.Num(bitsOf(m), numSize)
	w.Num(len(m.Questions), numSize)
	for _, s := range sections(&m) {
		w.Num(len(*s), numSize)
	}
}

// bitsOf answers m's flags as a number.
func bitsOf(m api.Msg) int {
	bits := m.Opcode<<opcodeAt | m.Rcode
	for _, f := range flags(&m) {
		if *f.on {
			bits |= 1 << f.at
		}
	}
	return bits
}

// putQuestion writes q, which is sound: so Name has no error.
func putQuestion(w *wname.Writer, q api.Question) {
	w.Name(q.Name, true)
	w.Num(q.Type, numSize)
	w.Num(q.Class, numSize)
}
