package code_test

import (
	"strings"
	"testing"

	"gazetteer/api"
	"gazetteer/code"
)

// saysNothing checks that Decode refuses b, and answers nothing beside that.
func saysNothing(t *testing.T, b string) {
	t.Helper()
	if x, e := code.Decode([]byte(b)); e != api.ErrText || !exactly(x, code.Entry{}) {
		t.Errorf("Decode(%.300q): %s, %d", b, tell(x), e)
	}
}

func TestDecode(t *testing.T) {
	for _, c := range samples() {
		if x, e := code.Decode([]byte(c.want)); e != api.OK || !exactly(x, c.x) {
			t.Errorf("Decode(%.300q): %s, %d, not %s", c.want, tell(x), e, tell(c.x))
		}
	}
}

func TestDecodeOfNothing(t *testing.T) {
	for _, b := range [][]byte{nil, {}, []byte("\x02\x00")[:0]} {
		if x, e := code.Decode(b); e != api.ErrText || !exactly(x, code.Entry{}) {
			t.Errorf("Decode(%v): %s, %d", b, tell(x), e)
		}
	}
}

// No entry's bytes begin those of another one. What is cut off is not read, though
// it lies behind still.
func TestDecodeOfLessBytes(t *testing.T) {
	for _, c := range samples() {
		for size := range len(c.want) {
			saysNothing(t, c.want[:size])
			if x, e := code.Decode([]byte(c.want)[:size]); e != api.ErrText {
				t.Errorf("%d bytes of %.300q: %s, %d", size, c.want, tell(x), e)
			}
		}
	}
}

func TestDecodeOfMoreBytes(t *testing.T) {
	for _, c := range samples() {
		for _, more := range []string{"\x00", "\x01", "\xff", "\x00\x00", c.want, strings.Repeat("\x00", maxRecord)} {
			saysNothing(t, c.want+more)
		}
		saysNothing(t, "\x00"+c.want)
	}
}

func TestDecodeOfOtherKinds(t *testing.T) {
	for kind := range 256 {
		for _, c := range samples() {
			if kind < 1 || kind > 3 {
				saysNothing(t, string([]byte{byte(kind)})+c.want[1:])
			}
		}
		if kind != 2 { // of which a name alone is one
			saysNothing(t, string([]byte{byte(kind)})+"\x00")
		}
		saysNothing(t, string([]byte{byte(kind)}))
	}
}

func TestDecodeOfTimesThatMayNotBe(t *testing.T) {
	for _, s := range []string{"\x80\x00\x00\x00\x00\x00\x01", "\x81\x00\x00\x00\x00\x00\x00", "\xff\xff\xff\xff\xff\xff\xff"} {
		saysNothing(t, "\x03"+s)
		saysNothing(t, "\x01\x01a\x00\x00\x01\x01\x04"+s+"\x00\x00\x00\x06\x01\x00\x04\x01\x02\x03\x04")
	}
}

// Names of flushes stand whole: there are neither pointers nor labels that are too
// long.
func TestDecodeOfNamesThatAreNone(t *testing.T) {
	for _, n := range []string{
		"\xc0\x00", "\xc0\x01", "\x01a\xc0\x01", "\x01a\xc0\x03", "\xc0", "\x40", "\x7f\x00", "\x80\x00", "\xbf\x00",
		"\x40" + label(64) + "\x00", "\x01a", "\x01", "\x02a\x00",
		"\x3f" + label(63) + "\x3f" + label(63) + "\x3f" + label(63) + "\x3e" + label(62) + "\x00",
		strings.Repeat("\x01a", 128) + "\x00",
	} {
		saysNothing(t, "\x02"+n)
		saysNothing(t, "\x01"+n+"\x00\x63"+behindType+"\x01\x00\x00")
		saysNothing(t, "\x01\x00\x00\x00\x03"+behindNot+n+soaWritten(1))
	}
}

// A pointer to a byte ahead that is 0 is a name that can be read; here it is none.
func TestDecodeOfPointers(t *testing.T) {
	for _, b := range []string{
		// The owner is a., the zone a pointer to it, or to its end.
		"\x01\x01a\x00\x00\x00\x03" + behindNot + "\xc0\x01" + soaWritten(1),
		"\x01\x01a\x00\x00\x00\x03" + behindNot + "\xc0\x03" + soaWritten(1),
		// The data is a pointer to the owner, or to the data ahead.
		"\x01\x01a\x00\x00\x02" + behindType + "\x01\x00\x02\xc0\x01",
		"\x01\x01a\x00\x00\x02" + behindType + "\x02\x00\x03\x01b\x00\x00\x02\xc0\x16",
		"\x01\x01a\x00\x00\x02" + behindType + "\x01\x00\x04\x01b\xc0\x00",
		// One within a data leads to the 0 of a number.
		"\x01\x01a\x00\x00\x0f" + behindType + "\x01\x00\x04\x00\x01\xc0\x00",
		"\x01\x01a\x00\x00\x21" + behindType + "\x01\x00\x08\x00\x01\x00\x02\x00\x03\xc0\x00",
	} {
		saysNothing(t, b)
	}
}

// soaOf are the bytes of a fact that tells of an SOA with these names.
func soaOf(names string) string {
	b := names + strings.Repeat("\x00", 19) + "\x09"
	return "\x01\x00\x00\x06" + behindType + "\x01" + string([]byte{0, byte(len(b))}) + b
}

// Mail is written short, wherever it can be, and with the first pointer that leads
// to the most: all else is not what Encode makes.
func TestDecodeOfPointersInSoa(t *testing.T) {
	for _, c := range []struct {
		names      string
		host, mail string
	}{
		{"\x01a\x00\xc0\x00", "a", "a"},
		{"\x01a\x01a\x00\xc0\x00", "a.a", "a.a"},
		{"\x01a\x01a\x00\xc0\x02", "a.a", "a"},
		{"\x01b\x01a\x00\x01c\xc0\x02", "b.a", "c.a"},
		{"\x01a\x00\x01A\x00", "a", "A"},
		{"\x00\x01a\x00", "", "a"},
		{"\x01a\x00\x00", "a", ""},
	} {
		x, e := code.Decode([]byte(soaOf(c.names)))
		want := known(has("", api.SOA, api.Data{Host: name(c.host), Mail: name(c.mail), Nums: []int{0, 0, 0, 0, 9}}))
		if e != api.OK || !exactly(x, want) {
			t.Errorf("an SOA of %q: %s, %d", c.names, tell(x), e)
		}
	}
	for _, names := range []string{
		"\x01a\x00\x01a\x00", "\x01a\x00\xc0\x02", "\x01a\x01a\x00\x01a\xc0\x02", "\x01b\x01a\x00\x01c\x01a\x00",
		"\x01b\x01a\x00\x01b\xc0\x02", "\x00\xc0\x00", "\x01a\x00\x01a\xc0\x02", "\x01a\x00\xc0\x03", "\x01a\xc0\x00\xc0\x00",
		"\x02\x01a\x00\xc0\x01",
	} {
		saysNothing(t, soaOf(names))
	}
}

// Sets of too few and too many data, such that are twice there, and data that are
// none.
func TestDecodeOfSetsThatAreNone(t *testing.T) {
	a := "\x01\x01a\x00\x00\x01" + behindType
	saysNothing(t, a+"\x00")
	for _, count := range []int{65, 66, 128, 255} {
		all := ""
		for i := range count {
			all += "\x00\x04\x01\x02\x00" + string([]byte{byte(i)})
		}
		saysNothing(t, a+string([]byte{byte(count)})+all)
		saysNothing(t, a+string([]byte{byte(count - 1)})+all)
	}
	saysNothing(t, a+"\x02\x00\x04\x01\x02\x03\x04\x00\x04\x01\x02\x03\x04")
	saysNothing(t, a+"\x01\x00\x03\x01\x02\x03")
	saysNothing(t, a+"\x01\x00\x05\x01\x02\x03\x04\x05")
	saysNothing(t, a+"\x01\x00\x00")
	saysNothing(t, a+"\x02\x00\x04\x01\x02\x03\x04")
	saysNothing(t, a+"\x01\x00\x04\x01\x02\x03\x04\x00\x04\x01\x02\x03\x05")
	saysNothing(t, a+"\x01\xff\xff\x01\x02\x03\x04")
	ns := "\x01\x01a\x00\x00\x02" + behindType
	saysNothing(t, ns+"\x02\x00\x03\x01b\x00\x00\x03\x01B\x00")
	saysNothing(t, ns+"\x01\x00\x04\x01b\x00\x00")
	saysNothing(t, ns+"\x01\x00\x02\x01b\x00")
	txt := "\x01\x01a\x00\x00\x10" + behindType
	saysNothing(t, txt+"\x01\x00\x00")
	saysNothing(t, txt+"\x01\x00\x02\x02a")
	saysNothing(t, txt+"\x01\x00\x41"+strings.Repeat("\x00", 65))
}

// Numbers of facts that may not be, each in the place of one that may.
func TestDecodeOfNumbersThatMayNotBe(t *testing.T) {
	put := func(kind, of, rank, ttl, rest string) {
		t.Helper()
		saysNothing(t, "\x01\x01a\x00"+kind+of+rank+"\x00\x00\x00\x00\x00\x00\x05"+ttl+rest)
	}
	address, seconds := "\x01\x00\x04\x01\x02\x03\x04", "\x00\x00\x00\x06"
	for _, kind := range []string{"\x00\x00", "\x00\x29", "\x00\xff", "\xff\xff"} {
		put(kind, "\x01", "\x04", seconds, address)
		put(kind, "\x01", "\x04", seconds, "\x01\x00\x00")
		if kind != "\x00\x00" {
			put(kind, "\x03", "\x04", seconds, "\x00"+soaWritten(1))
		}
		put(kind, "\x02", "\x04", seconds, "\x00"+soaWritten(1))
	}
	for _, of := range []string{"\x00", "\x04", "\xff"} {
		put("\x00\x01", of, "\x04", seconds, address)
		put("\x00\x01", of, "\x04", seconds, "\x00"+soaWritten(1))
		put("\x00\x00", of, "\x04", seconds, "\x00"+soaWritten(1))
	}
	for _, rank := range []string{"\x00", "\x05", "\xff"} {
		put("\x00\x01", "\x01", rank, seconds, address)
		put("\x00\x01", "\x02", rank, seconds, "\x00"+soaWritten(1))
	}
	for _, ttl := range []string{"\x00\x09\x3a\x81", "\x80\x00\x00\x00", "\xff\xff\xff\xff"} {
		put("\x00\x01", "\x01", "\x04", ttl, address)
		put("\x00\x01", "\x02", "\x04", ttl, "\x00"+soaWritten(1))
	}
	put("\x00\x01", "\x02", "\x04", "\x00\x00\x2a\x31", "\x00"+soaWritten(1))
	put("\x00\x01", "\x02", "\x04", seconds, "\x01b\x00"+soaWritten(1))
	put("\x00\x01", "\x02", "\x04", seconds, "\x01b\x01a\x00"+soaWritten(1))
	put("\x00\x01", "\x01", "\x04", seconds, "\x00"+soaWritten(1))
	put("\x00\x01", "\x02", "\x04", seconds, address)
}

// There is no entry of more bytes than a record may have, even where Encode would
// make them, were it not for that.
func TestDecodeOfLargeBytes(t *testing.T) {
	for _, size := range []int{maxRecord - 22, maxRecord - 21, 65535} {
		b := "\x01\x01a\x00\x00\x63" + behindType + "\x01" + string([]byte{byte(size >> 8), byte(size)}) + strings.Repeat("\x07", size)
		x, e := code.Decode([]byte(b))
		if fits := len(b) <= maxRecord; fits != (e == api.OK) || fits != (len(x.Fact.Set) == 1) {
			t.Errorf("Decode of %d bytes: %s, %d", len(b), tell(x), e)
		}
		if e != api.OK && e != api.ErrText {
			t.Errorf("Decode of %d bytes: %d", len(b), e)
		}
	}
}

// Any byte of a sample in the place of another one: there is an entry just if it
// has these bytes.
func TestDecodeOfOtherBytes(t *testing.T) {
	read := 0
	for _, c := range samples() {
		if len(c.want) > 100 {
			continue
		}
		for at := range len(c.want) {
			for to := range 256 {
				b := []byte(c.want)
				b[at] = byte(to)
				read += asTheModel(t, b)
			}
		}
	}
	if read < 1000 {
		t.Errorf("only %d were read", read)
	}
}

// Short bytes, all of them.
func TestDecodeOfAllShortBytes(t *testing.T) {
	for n := range 1 << 16 {
		asTheModel(t, []byte{byte(n >> 8), byte(n)})
		asTheModel(t, []byte{2, 1, byte(n >> 8), byte(n)})
		asTheModel(t, []byte{2, byte(n >> 8), byte(n)})
	}
	for n := range 256 {
		asTheModel(t, []byte{byte(n)})
	}
}
