package code

import (
	"bytes"

	"gazetteer/api"
	"gazetteer/num"
	"gazetteer/rdata"
	"gazetteer/wname"
)

// Decode answers the entry whose bytes b is.
func Decode(b []byte) (x Entry, e api.Errno) {
	defer func() {
		switch caught := recover().(type) {
		case nil:
		case gaveUp:
			x, e = Entry{}, api.ErrText
		default:
			panic(caught)
		}
	}()
	r := &reader{b: b}
	x = r.entry()
	// What is read may be unsound, end ahead of b, or have a name with a pointer
	// that Encode would not write: all of this comes out here. Of what it refuses
	// Encode answers no bytes, and b has some.
	if again, _ := Encode(x); !bytes.Equal(again, b) {
		giveUp()
	}
	return x, api.OK
}

// reader is an entry of which some is read. Its methods give up by a panic, so
// that none of them has to hand errors on.
type reader struct {
	b  []byte
	at int // where the next part is read
}

// gaveUp is what a reader panics with. No other panic has this type.
type gaveUp struct{}

func giveUp() {
	panic(gaveUp{})
}

func (r *reader) entry() Entry {
	x := Entry{Kind: r.num(kindSize)}
	switch x.Kind {
	case ofFact:
		x.Fact = r.fact()
	case ofFlush:
		x.Zone = r.name()
	case ofClock:
		x.Time = r.num(timeSize)
	}
	return x
}

func (r *reader) fact() (f api.Fact) {
	f.Name = r.name()
	f.Type = r.num(typeSize)
	f.Kind = r.num(kindSize)
	f.Rank = r.num(rankSize)
	f.Got = r.num(timeSize)
	f.TTL = r.num(ttlSize)
	if f.Kind != api.Has {
		f.Zone = r.name()
		f.Soa = r.data(api.SOA)
		return f
	}
	for range r.num(countSize) {
		f.Set = append(f.Set, r.data(f.Type))
	}
	return f
}

func (r *reader) num(size int) int {
	n, e := num.Get(r.b, r.at, size)
	if e != api.OK {
		giveUp()
	}
	r.at += size
	return n
}

func (r *reader) name() []string {
	n, next, e := wname.Get(r.b, r.at)
	if e != api.OK {
		giveUp()
	}
	r.at = next
	return n
}

// data reads bytes that are cut out of all others: pointers in them count from
// where they begin.
func (r *reader) data(kind int) api.Data {
	size := r.num(dataSize)
	if size > len(r.b)-r.at {
		giveUp()
	}
	own := r.b[r.at : r.at+size]
	r.at += size
	d, e := rdata.Get(own, 0, size, kind)
	if e != api.OK {
		giveUp()
	}
	return d
}
