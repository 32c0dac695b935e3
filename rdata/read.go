package rdata

import (
	"gazetteer/api"
	"gazetteer/num"
	"gazetteer/wname"
)

// Get answers the data of the type kind that the size bytes of b from at on are.
func Get(b []byte, at, size, kind int) (d api.Data, e api.Errno) {
	if at < 0 || size < 0 || !isKind(kind) {
		return api.Data{}, api.ErrArg
	}
	// Not at+size > len(b): the sum would go over at the greatest ones.
	if size > len(b)-at {
		return api.Data{}, api.ErrShort
	}
	defer func() {
		caught := recover()
		if own, ok := caught.(gaveUp); ok {
			e = own.why
		} else if caught != nil {
			panic(caught)
		}
	}()
	r := &reader{b: b, at: at, end: at + size}
	return r.data(shapeOf(kind)), api.OK
}

// reader is data of which some is read. Its methods give up by a panic, so that
// none of them has to hand errors on.
type reader struct {
	b   []byte // with what stands around the data: pointers lead there
	at  int    // where the next part is read
	end int    // the place behind the data
}

// gaveUp is what a reader panics with. No other panic has this type.
type gaveUp struct {
	why api.Errno
}

// data reads all parts that s has.
func (r *reader) data(s shape) (d api.Data) {
	ahead := r.nums(s.ahead, aheadSize)
	if s.host {
		d.Host = r.name()
	}
	if s.mail {
		d.Mail = r.name()
	}
	d.Nums = append(ahead, r.nums(s.behind, behindSize)...)
	if s.texts {
		d.Texts = r.texts()
	}
	d.Bytes = r.bytes(s.least, s.most)
	if r.at < r.end {
		giveUp(api.ErrExtra)
	}
	return d
}

func (r *reader) nums(count, size int) []int {
	var out []int
	for range count {
		out = append(out, r.num(size))
	}
	return out
}

func (r *reader) num(size int) int {
	// Only up to the data's end: so num tells where that comes too early.
	n, e := num.Get(r.b[:r.end], r.at, size)
	if e != api.OK {
		giveUp(e)
	}
	r.at += size
	return n
}

// name goes by what wname tells of it, also where the data ends in the name: so
// the name's own error comes ahead of that.
func (r *reader) name() []string {
	n, next, e := wname.Get(r.b, r.at)
	if e != api.OK {
		giveUp(e)
	}
	if next > r.end {
		giveUp(api.ErrShort)
	}
	r.at = next
	return n
}

func (r *reader) texts() []string {
	var out []string
	for r.at < r.end {
		if len(out) == api.MaxTexts {
			giveUp(api.ErrLarge)
		}
		out = append(out, string(r.take(r.num(1))))
	}
	if len(out) == 0 {
		giveUp(api.ErrForm)
	}
	return out
}

// bytes reads as many as there are up to most.
func (r *reader) bytes(least, most int) []byte {
	size := max(least, min(most, r.end-r.at))
	return append([]byte(nil), r.take(size)...)
}

// take goes behind the next size bytes. They are b's own memory still.
func (r *reader) take(size int) []byte {
	if size > r.end-r.at {
		giveUp(api.ErrShort)
	}
	part := r.b[r.at : r.at+size]
	r.at += size
	return part
}

func giveUp(e api.Errno) {
	panic(gaveUp{e})
}
