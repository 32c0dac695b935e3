package code_test

import (
	"bytes"
	"fmt"
	"math/rand"
	"slices"
	"strings"
	"testing"

	"gazetteer/api"
	"gazetteer/code"
	"gazetteer/fact"
)

// big is n as size bytes.
func big(n, size int) []byte {
	out := make([]byte, size)
	for i := range size {
		out[size-1-i] = byte(n)
		n /= 256
	}
	return out
}

// long is a name without pointers.
func long(n []string) []byte {
	var out []byte
	for _, l := range n {
		out = append(append(out, byte(len(l))), l...)
	}
	return append(out, 0)
}

// short is the second name of a data that begins with first: the most of its end
// that first ends in, too, is a pointer.
func short(first, n []string) []byte {
	var out []byte
	for i, l := range n {
		for from := range first {
			if slices.Equal(first[from:], n[i:]) {
				at := len(long(first[:from])) - 1
				return append(out, byte(192+at/256), byte(at))
			}
		}
		out = append(append(out, byte(len(l))), l...)
	}
	return append(out, 0)
}

func modelData(kind int, d api.Data) []byte {
	var out []byte
	switch kind {
	case 2, 5, 12:
		out = long(d.Host)
	case 15, 33:
		for _, n := range d.Nums {
			out = append(out, big(n, 2)...)
		}
		out = append(out, long(d.Host)...)
	case 6:
		out = append(long(d.Host), short(d.Host, d.Mail)...)
		for _, n := range d.Nums {
			out = append(out, big(n, 4)...)
		}
	case 16:
		for _, s := range d.Texts {
			out = append(append(out, byte(len(s))), s...)
		}
	default:
		out = d.Bytes
	}
	return append(big(len(out), 2), out...)
}

// modelEncode is as the document tells Encode, of entries that are sound.
func modelEncode(x code.Entry) []byte {
	out := []byte{byte(x.Kind)}
	switch x.Kind {
	case 3:
		return append(out, big(x.Time, 7)...)
	case 2:
		return append(out, long(x.Zone)...)
	}
	f := x.Fact
	out = slices.Concat(out, long(f.Name), big(f.Type, 2), big(f.Kind, 1), big(f.Rank, 1), big(f.Got, 7), big(f.TTL, 4))
	if f.Kind != 1 {
		return slices.Concat(out, long(f.Zone), modelData(6, f.Soa))
	}
	out = append(out, byte(len(f.Set)))
	for _, d := range f.Set {
		out = append(out, modelData(f.Type, d)...)
	}
	return out
}

// source is bytes from which the model reads; bad, as soon as it can't.
type source struct {
	b   []byte
	bad bool
}

func (s *source) take(size int) []byte {
	if s.bad || size > len(s.b) {
		s.bad = true
		return nil
	}
	out := s.b[:size]
	s.b = s.b[size:]
	return out
}

func (s *source) number(size int) (n int) {
	for _, x := range s.take(size) {
		n = n*256 + int(x)
	}
	return n
}

// name reads labels till the root, or, if first is not nil, till a pointer to the
// beginning of one of first's labels.
func (s *source) name(first []string) (n []string) {
	for {
		size := s.number(1)
		switch {
		case s.bad || size == 0:
			return n
		case size >= 192 && first != nil:
			to := (size-192)*256 + s.number(1)
			for from := range first {
				if len(long(first[:from]))-1 == to {
					return append(n, first[from:]...)
				}
			}
			s.bad = true
			return nil
		case size > 63:
			s.bad = true
			return nil
		}
		n = append(n, string(s.take(size)))
	}
}

func (s *source) numbers(count, size int) (list []int) {
	for range count {
		list = append(list, s.number(size))
	}
	return list
}

func (s *source) data(kind int) (d api.Data) {
	own := source{b: s.take(s.number(2))}
	switch kind {
	case 2, 5, 12:
		d.Host = own.name(nil)
	case 15:
		d.Nums, d.Host = own.numbers(1, 2), own.name(nil)
	case 33:
		d.Nums, d.Host = own.numbers(3, 2), own.name(nil)
	case 6:
		d.Host = own.name(nil)
		d.Mail = own.name(d.Host)
		d.Nums = own.numbers(5, 4)
	case 16:
		for len(own.b) > 0 && !own.bad {
			d.Texts = append(d.Texts, string(own.take(own.number(1))))
		}
	default:
		d.Bytes = own.take(len(own.b))
	}
	s.bad = s.bad || own.bad || len(own.b) > 0
	return d
}

// modelDecode reads b from its beginning on; whether it is written as it should
// be, where there are several ways, modelEncode tells.
func modelDecode(b []byte) (x code.Entry, ok bool) {
	s := source{b: b}
	x.Kind = s.number(1)
	f := &x.Fact
	switch x.Kind {
	case 1:
		f.Name, f.Type, f.Kind, f.Rank, f.Got, f.TTL = s.name(nil), s.number(2), s.number(1), s.number(1), s.number(7), s.number(4)
		if f.Kind == 1 {
			for range s.number(1) {
				f.Set = append(f.Set, s.data(f.Type))
			}
		} else {
			f.Zone, f.Soa = s.name(nil), s.data(6)
		}
		ok = fact.Sound(x.Fact)
	case 2:
		x.Zone = s.name(nil)
		ok = len(long(x.Zone)) <= 255
	case 3:
		x.Time = s.number(7)
		ok = x.Time <= maxTime
	}
	if !ok || s.bad || len(s.b) > 0 || len(b) > maxRecord || !bytes.Equal(modelEncode(x), b) {
		return code.Entry{}, false
	}
	return x, true
}

// asTheModel holds Decode of b against the model, and answers 1, if there is an
// entry.
func asTheModel(t *testing.T, b []byte) int {
	t.Helper()
	x, e := code.Decode(b)
	want, ok := modelDecode(b)
	if (e == api.OK) != ok || !ok && e != api.ErrText || !exactly(x, want) {
		t.Fatalf("Decode(%.500q): %s, %d, not %s, %v", b, tell(x), e, tell(want), ok)
	}
	if !ok {
		return 0
	}
	if again, e := code.Encode(x); e != api.OK || !bytes.Equal(again, b) || !code.Sound(x) {
		t.Fatalf("Encode of what %.500q says: %.500q, %d", b, again, e)
	}
	return 1
}

// drawer draws entries of few names, so that names have ends in common.
type drawer struct {
	*rand.Rand
}

func (d drawer) of(list ...int) int {
	return list[d.Intn(len(list))]
}

func (d drawer) name() []string {
	var n []string
	for range d.Intn(5) {
		n = append(n, []string{"a", "b", "A", "xyz", "\x00", label(60)}[d.Intn(6)])
	}
	return n
}

func (d drawer) text() string {
	return strings.Repeat("t", d.of(0, 1, 2, 63, 255))
}

func (d drawer) bytes(size int) []byte {
	b := make([]byte, size)
	d.Read(b)
	return b
}

func (d drawer) numbers(count, bits int) (list []int) {
	for range count {
		list = append(list, int(d.Uint64()>>(64-bits))>>d.Intn(bits))
	}
	return list
}

func (d drawer) data(kind int) api.Data {
	switch kind {
	case 1:
		return api.Data{Bytes: d.bytes(4)}
	case 28:
		return api.Data{Bytes: d.bytes(16)}
	case 2, 5, 12:
		return api.Data{Host: d.name()}
	case 15:
		return api.Data{Nums: d.numbers(1, 16), Host: d.name()}
	case 33:
		return api.Data{Nums: d.numbers(3, 16), Host: d.name()}
	case 6:
		return api.Data{Host: d.name(), Mail: d.name(), Nums: d.numbers(5, 32)}
	case 16:
		texts := []string{d.text()}
		for range d.Intn(64) {
			texts = append(texts, d.text())
		}
		return api.Data{Texts: texts[:1+d.Intn(len(texts))]}
	}
	return api.Data{Bytes: d.bytes(d.of(0, 1, 300, 9000, 9000))}
}

// fact is one that is sound, but if data of its set meet.
func (d drawer) fact() api.Fact {
	f := api.Fact{Name: d.name(), Type: d.of(1, 1, 2, 5, 6, 12, 15, 16, 28, 33, 3, 99, 300, 65534), Kind: 1 + d.Intn(3), Rank: 1 + d.Intn(4)}
	f.Got = int(d.Uint64()>>9) >> d.Intn(55)
	f.TTL = d.of(0, 1, 255, 256, 10800, d.Intn(10801))
	if f.Kind != 1 {
		f.Zone, f.Soa = slices.Clone(f.Name[d.Intn(1+len(f.Name)):]), d.data(6)
		if f.Kind == 3 {
			f.Type = 0
		}
		return f
	}
	f.TTL = d.of(f.TTL, 10801, maxTTL)
	for range d.of(1, 1, 2, 3, 64) {
		f.Set = append(f.Set, d.data(f.Type))
	}
	return f
}

func (d drawer) entry() code.Entry {
	switch d.Intn(8) {
	case 0:
		return flushed(d.name())
	case 1:
		return clock(int(d.Uint64()>>9) >> d.Intn(55))
	}
	return known(d.fact())
}

func TestEncodeAsTheModel(t *testing.T) {
	seen := map[string]int{}
	for seed := range 30000 {
		d := drawer{rand.New(rand.NewSource(int64(seed)))}
		x := d.entry()
		sound := x.Kind != 1 || fact.Sound(x.Fact)
		if code.Sound(x) != sound {
			t.Fatalf("Sound(%s) is %v", tell(x), !sound)
		}
		b, e := code.Encode(x)
		want, wantE := modelEncode(x), api.OK
		if !sound {
			want, wantE = nil, api.ErrForm
		} else if len(want) > maxRecord {
			want, wantE = nil, api.ErrLarge
		}
		if e != wantE || !bytes.Equal(b, want) {
			t.Fatalf("Encode(%s): %.300q, %d, not %.300q, %d", tell(x), b, e, want, wantE)
		}
		seen[fmt.Sprint(x.Kind, " ", x.Fact.Kind, " ", e)]++
		if e != api.OK {
			continue
		}
		if y, e := code.Decode(b); e != api.OK || !exactly(x, y) {
			t.Fatalf("Decode(%.300q): %s, %d, not %s", b, tell(y), e, tell(x))
		}
	}
	for _, way := range []string{"1 1 0", "1 2 0", "1 3 0", "2 0 0", "3 0 0", "1 1 2", "1 1 4"} {
		if seen[way] < 100 {
			t.Errorf("entries of kind, fact's kind and error %s: %d of %v", way, seen[way], seen)
		}
	}
}

// changed answers b with some of it changed, taken out, or put in.
func (d drawer) changed(b []byte) []byte {
	out := slices.Clone(b)
	for range 1 + d.Intn(2) {
		at := d.Intn(1 + len(out))
		switch d.Intn(5) {
		case 0:
			out = slices.Delete(out, at, min(at+1+d.Intn(3), len(out)))
		case 1:
			out = slices.Insert(out, at, byte(d.of(0, 1, 192, d.Intn(256))))
		case 2:
			out = slices.Insert(out, at, 192, byte(d.Intn(20)))
		default:
			if at < len(out) {
				out[at] = byte(d.of(0, 1, 2, 3, 192, int(out[at])+1, int(out[at])-1, d.Intn(256)))
			}
		}
	}
	return out
}

func TestDecodeAsTheModel(t *testing.T) {
	read, tried := 0, 0
	for seed := range 4000 {
		d := drawer{rand.New(rand.NewSource(int64(seed)))}
		b := modelEncode(d.entry())
		if len(b) > 1000 {
			continue
		}
		for range 30 {
			read += asTheModel(t, d.changed(b))
			tried++
		}
	}
	if read < 5000 || tried-read < 5000 {
		t.Errorf("%d of %d were read", read, tried)
	}
}

// Any bytes behind a kind, or behind what a fact begins with.
func TestDecodeOfDrawnBytesAsTheModel(t *testing.T) {
	d := drawer{rand.New(rand.NewSource(1))}
	read := 0
	for range 100000 {
		b := d.bytes(d.Intn(40))
		for i := range b {
			b[i] >>= d.Intn(9)
		}
		read += asTheModel(t, b)
		read += asTheModel(t, append([]byte{byte(d.of(1, 2, 3))}, b...))
		read += asTheModel(t, append([]byte("\x01\x01a\x00\x00\x63"+behindType+"\x01\x00"), b...))
		read += asTheModel(t, append([]byte("\x01\x01a\x00\x00\x10"+behindType), b...))
		read += asTheModel(t, append([]byte("\x01\x01a\x00\x00\x02"+behindType+"\x01"), b...))
	}
	if read < 1000 {
		t.Errorf("only %d were read", read)
	}
}
