package msg

import (
	"gazetteer/api"
	"gazetteer/num"
	"gazetteer/rr"
	"gazetteer/wname"
)

// Decode answers the message that b is.
func Decode(b []byte) (api.Msg, api.Errno) {
	if len(b) > api.MaxMsg {
		return api.Msg{}, api.ErrLarge
	}
	if len(b) < headSize {
		return api.Msg{}, api.ErrShort
	}
	r := reader{b: b}
	if e := r.message(); e != api.OK {
		return api.Msg{}, e
	}
	return r.m, api.OK
}

// reader is a message of which some is read.
type reader struct {
	b  []byte
	at int // where the next byte is read
	m  api.Msg
}

// message reads all of b, which has a head's bytes.
func (r *reader) message() api.Errno {
	r.m.ID = r.num()
	r.setFlags(r.num())
	var counts [parts]int
	all := 0
	for i := range counts {
		counts[i] = r.num()
		all += counts[i]
	}
	// One more than a message has, for the OPT record, which is none of its lists.
	if all > api.MaxRecords+1 {
		return api.ErrLarge
	}
	if e := r.questions(counts[0]); e != api.OK {
		return e
	}
	for i, s := range sections(&r.m) {
		if e := r.records(s, counts[i+1]); e != api.OK {
			return e
		}
	}
	if r.at < len(r.b) {
		return api.ErrExtra
	}
	return api.OK
}

// num reads a number, whose bytes are there.
func (r *reader) num() int {
	n, _ := num.Get(r.b, r.at, numSize)
	r.at += numSize
	return n
}

// setFlags keeps what the bits say; three of them say nothing.
func (r *reader) setFlags(bits int) {
	r.m.Opcode = bits >> opcodeAt & codeMask
	r.m.Rcode = bits & codeMask
	for _, f := range flags(&r.m) {
		*f.on = bits>>f.at&1 == 1
	}
}

// questions reads as many as count tells.
func (r *reader) questions(count int) api.Errno {
	for range count {
		if e := r.question(); e != api.OK {
			return e
		}
	}
	return api.OK
}

func (r *reader) question() api.Errno {
	n, next, e := wname.Get(r.b, r.at)
	if e != api.OK {
		return e
	}
	if 2*numSize > len(r.b)-next {
		return api.ErrShort
	}
	r.at = next
	q := api.Question{Name: n, Type: r.num(), Class: r.num()}
	if q.Type == 0 {
		return api.ErrForm
	}
	r.m.Questions = append(r.m.Questions, q)
	return api.OK
}

// records reads as many as count tells, into the section s.
func (r *reader) records(s *[]api.RR, count int) api.Errno {
	for range count {
		if e := r.record(s); e != api.OK {
			return e
		}
	}
	return api.OK
}

func (r *reader) record(s *[]api.RR) api.Errno {
	got, next, e := rr.Get(r.b, r.at)
	if e != api.OK {
		return e
	}
	r.at = next
	if got.Type == api.OPT {
		return r.edns(s, got)
	}
	*s = append(*s, got)
	return api.OK
}

// edns keeps what an OPT record of the section s says.
func (r *reader) edns(s *[]api.RR, opt api.RR) api.Errno {
	if s != &r.m.Extra || r.m.Edns || len(opt.Name) > 0 {
		return api.ErrForm
	}
	r.m.Edns, r.m.Size = true, opt.Class
	return api.OK
}
