package wname_test

import (
	"bytes"
	"math"
	"math/rand"
	"slices"
	"strings"
	"testing"

	"gazetteer/api"
	"gazetteer/wname"
)

func TestGet(t *testing.T) {
	for _, c := range []struct {
		b    string
		at   int
		want []string
		next int
	}{
		{"\x00", 0, nil, 1},
		{"\x00\x00", 1, nil, 2},
		{"\x01a\x00", 0, []string{"a"}, 3},
		{"\x01a\x00", 2, nil, 3},
		{"\x03www\x07example\x00\xff", 0, []string{"www", "example"}, 13},
		{"\x03www\x07example\x00\xff", 4, []string{"example"}, 13},
		{"\xff\x01\x00\x01\xff\x00", 1, []string{"\x00", "\xff"}, 6},
		{"\x03a.b\x02\xc3\xa4\x01\\\x01A\x00", 0, []string{"a.b", "\xc3\xa4", "\\", "A"}, 12},
		{"\x3f" + label(63) + "\x00", 0, []string{label(63)}, 65},
		{"\x01a\x00\xc0\x00", 3, []string{"a"}, 5},
		{"\x01a\x00\xc0\x02", 3, nil, 5},
		{"\x01a\x01b\x00\x01c\xc0\x02\x09\x09", 5, []string{"c", "b"}, 9},
		{"\x01a\x00\x01b\xc0\x00\x01c\xc0\x03\x01d\xc0\x07\x77", 11, []string{"d", "c", "b", "a"}, 15},
		{"\x00\xc0\x00\xc0\x01\xc0\x03\xc0\x05", 7, nil, 9},
		// A pointer may lead into a label, and to what goes on where it stands.
		{"\x04\x01a\x00b\x00\xc0\x01", 6, []string{"a"}, 8},
		{"\x02\xc0\x00\x00", 1, []string{"\xc0\x00"}, 3},
		{"\x00\x03a\xc0\x00\x00\xc0\x01", 6, []string{"a\xc0\x00"}, 8},
		{"\x01a\x04\xc0\x00bc\x00", 3, []string{"a", "\xc0\x00bc"}, 5},
	} {
		if n, next, e := wname.Get([]byte(c.b), c.at); e != api.OK || next != c.next || !slices.Equal(n, c.want) {
			t.Errorf("Get(%q, %d): %q, %d, %d, not %q, %d", c.b, c.at, n, next, e, c.want, c.next)
		}
	}
}

func TestGetRefused(t *testing.T) {
	for _, c := range []struct {
		b    string
		at   int
		want api.Errno
	}{
		{"", -1, api.ErrArg},
		{"\x00", -1, api.ErrArg},
		{"\x00", -256, api.ErrArg},
		{"\x40", math.MinInt, api.ErrArg},
		{"\x01a\x00", math.MinInt + 1, api.ErrArg},
		{"", 0, api.ErrShort},
		{"", 1, api.ErrShort},
		{"", math.MaxInt, api.ErrShort},
		{"\x00", 1, api.ErrShort},
		{"\x00", 2, api.ErrShort},
		{"\x00", 1 << 32, api.ErrShort},
		{"\x00", math.MaxInt, api.ErrShort},
		{"\x01", 0, api.ErrShort},
		{"\x01a", 0, api.ErrShort},
		{"\x02a", 0, api.ErrShort},
		{"\x3f" + label(62), 0, api.ErrShort},
		{"\x3f" + label(63), 0, api.ErrShort},
		{"\x01a\x02b", 0, api.ErrShort},
		{"\xc0", 0, api.ErrShort},
		{"\xff", 0, api.ErrShort},
		{"\x01a\xc0", 0, api.ErrShort},
		{"\x00\xc0", 1, api.ErrShort},
		{"\x40", 0, api.ErrName},
		{"\x40" + label(64) + "\x00", 0, api.ErrName},
		{"\x7f" + label(127) + "\x00", 0, api.ErrName},
		{"\x80", 0, api.ErrName},
		{"\x80\x00\x00", 0, api.ErrName},
		{"\xbf", 0, api.ErrName},
		{"\xbf\x00", 0, api.ErrName},
		{"\x01a\x40", 0, api.ErrName},
		{"\x00\xbf\x00", 1, api.ErrName},
		{"\x40\xc0\x00", 1, api.ErrName},
		{"\xc0\x00", 0, api.ErrLoop},
		{"\xc0\x01", 0, api.ErrLoop},
		{"\xc0\x02\x00", 0, api.ErrLoop},
		{"\xff\xff", 0, api.ErrLoop},
		{"\x00\xc0\x01", 1, api.ErrLoop},
		{"\x00\xc0\x02", 1, api.ErrLoop},
		{"\x00\xc0\x03\x00", 1, api.ErrLoop},
		{"\x00\xff\xff", 1, api.ErrLoop},
		// Not the place of the pointer counts, but where what is read began.
		{"\x01a\xc0\x00", 0, api.ErrLoop},
		{"\x01a\x01b\xc0\x02", 0, api.ErrLoop},
		{"\x00\x01a\xc0\x01", 1, api.ErrLoop},
		{"\x01a\xc0\x00", 2, api.ErrLoop},
		{"\x01a\x01b\xc0\x02", 4, api.ErrLoop},
		{"\x01a\x01b\xc0\x00", 2, api.ErrLoop},
		{"\x00\x01a\xc0\x01\xc0\x01", 5, api.ErrLoop},
		{"\x00\x01a\xc0\x02\xc0\x01", 5, api.ErrLoop},
		{"\xc0\x00\xc0\x00", 2, api.ErrLoop},
		{"\xc0\x02\xc0\x00", 2, api.ErrLoop},
		// Of several the first one that is met.
		{"\xc0\x00\x40", 0, api.ErrLoop},
		{"\x40\xc0\x02", 1, api.ErrLoop},
		{"\x01a\x40\xc0\x00", 0, api.ErrName},
		{"\x3f\x40", 0, api.ErrShort},
		{"\xc0\x02\xc0", 0, api.ErrLoop},
	} {
		if n, next, e := wname.Get([]byte(c.b), c.at); e != c.want || next != 0 || len(n) != 0 {
			t.Errorf("Get(%q, %d): %q, %d, %d, not %d", c.b, c.at, n, next, e, c.want)
		}
	}
}

// Each length byte alone, with all it might need behind it.
func TestGetOfEachLengthByte(t *testing.T) {
	for c := range 256 {
		b := append(append([]byte{0, byte(c)}, strings.Repeat("\x00", 300)...), 0)
		n, next, e := wname.Get(b, 1)
		switch {
		case c == 0:
			if e != api.OK || next != 2 || len(n) != 0 {
				t.Errorf("of 0: %q, %d, %d", n, next, e)
			}
		case c <= 63:
			if e != api.OK || next != c+3 || !slices.Equal(n, []string{strings.Repeat("\x00", c)}) {
				t.Errorf("of %d: %q, %d, %d", c, n, next, e)
			}
		case c <= 191:
			if e != api.ErrName || next != 0 || len(n) != 0 {
				t.Errorf("of %d: %q, %d, %d", c, n, next, e)
			}
		case c == 192:
			if e != api.OK || next != 3 || len(n) != 0 {
				t.Errorf("of 192: %q, %d, %d", n, next, e)
			}
		default:
			if e != api.ErrLoop || next != 0 || len(n) != 0 {
				t.Errorf("of %d: %q, %d, %d", c, n, next, e)
			}
		}
	}
}

// All 14 bits tell the place: among bytes 0 just one label stands there.
func TestGetFollowsAll14Bits(t *testing.T) {
	const at = 16384
	b := make([]byte, at+6)
	for to := range at {
		b[to], b[to+1] = 1, 'x'
		from := max(at, to+3)
		b[from], b[from+1] = 0xc0|byte(to>>8), byte(to)
		n, next, e := wname.Get(b, from)
		if e != api.OK || next != from+2 || !slices.Equal(n, []string{"x"}) {
			t.Fatalf("to %d: %q, %d, %d", to, n, next, e)
		}
		clear(b)
	}
}

func TestGetOfLongNames(t *testing.T) {
	full := strings.Repeat("\x3f"+label(63), 3)
	for _, c := range []struct {
		b    string
		at   int
		size int // labels' sizes in all; 0: an error
		want api.Errno
	}{
		{full + "\x3d" + label(61) + "\x00", 0, 250, api.OK},
		{full + "\x3e" + label(62) + "\x00", 0, 0, api.ErrName},
		{full + "\x3f" + label(63) + "\x00", 0, 0, api.ErrName},
		{strings.Repeat("\x01a", 127) + "\x00", 0, 127, api.OK},
		{strings.Repeat("\x01a", 128) + "\x00", 0, 0, api.ErrName},
		{strings.Repeat("\x01a", 125) + "\x03aaa\x00", 0, 128, api.OK},
		{strings.Repeat("\x01a", 126) + "\x02aa\x00", 0, 0, api.ErrName},
		// Pointers take no part in how long a name is.
		{"\x00" + strings.Repeat("\x01a", 127) + "\xc0\x00", 1, 127, api.OK},
		{"\x01a\x00" + strings.Repeat("\x01a", 126) + "\xc0\x00", 3, 127, api.OK},
		{"\x01a\x00" + strings.Repeat("\x01a", 127) + "\xc0\x00", 3, 0, api.ErrName},
		{"\x02aa\x00" + strings.Repeat("\x01a", 126) + "\xc0\x00", 4, 0, api.ErrName},
		// A label that would make it too long is ErrName at once, ..
		{strings.Repeat("\x01a", 128), 0, 0, api.ErrName},
		{strings.Repeat("\x01a", 128) + "\x40", 0, 0, api.ErrName},
		{strings.Repeat("\x01a", 128) + "\xc0", 0, 0, api.ErrName},
		{strings.Repeat("\x01a", 128) + "\xc0\x00", 0, 0, api.ErrName},
		{full + "\x3e" + label(62), 0, 0, api.ErrName},
		// .. but not if the bytes end in it.
		{full + "\x3e" + label(61), 0, 0, api.ErrShort},
		{full + "\x3e", 0, 0, api.ErrShort},
		{strings.Repeat("\x01a", 127) + "\x01", 0, 0, api.ErrShort},
		{strings.Repeat("\x01a", 127) + "\x3f" + label(62), 0, 0, api.ErrShort},
		// Behind as many labels as may be anything else is what it is.
		{strings.Repeat("\x01a", 127), 0, 0, api.ErrShort},
		{strings.Repeat("\x01a", 127) + "\x40", 0, 0, api.ErrName},
		{strings.Repeat("\x01a", 127) + "\xc0", 0, 0, api.ErrShort},
		{strings.Repeat("\x01a", 127) + "\xc0\x00", 0, 0, api.ErrLoop},
	} {
		n, next, e := wname.Get([]byte(c.b), c.at)
		wantNext := len(c.b)
		if c.want != api.OK {
			wantNext = 0
		}
		if e != c.want || next != wantNext || len(strings.Join(n, "")) != c.size {
			t.Errorf("Get of %d bytes, %d: %q, %d, %d, not %d", len(c.b), c.at, n, next, e, c.want)
		}
	}
}

func TestGetDoesNotReadSpareRoom(t *testing.T) {
	room := []byte("\x01a\x00\x00\xc0\x00\x00")
	for have := range 3 {
		if n, next, e := wname.Get(room[:have], 0); e != api.ErrShort || next != 0 || len(n) != 0 {
			t.Errorf("Get of %d bytes with spare room: %q, %d, %d", have, n, next, e)
		}
	}
	if n, next, e := wname.Get(room[:5], 4); e != api.ErrShort || next != 0 || len(n) != 0 {
		t.Errorf("Get of half a pointer with spare room: %q, %d, %d", n, next, e)
	}
	if _, _, e := wname.Get(room[:3], 3); e != api.ErrShort {
		t.Errorf("Get at the end of the bytes: %d", e)
	}
}

func TestGetAnswersNewMemory(t *testing.T) {
	b := []byte("\x03www\x01a\x00\x01x\xc0\x00")
	room := append(bytes.Clone(b), 1, 2, 3)
	one, _, _ := wname.Get(room[:len(b)], 7)
	two, _, _ := wname.Get(room[:len(b)], 7)
	if !bytes.Equal(room, append(bytes.Clone(b), 1, 2, 3)) {
		t.Errorf("Get changed what it was handed: %v", room)
	}
	fill(room, 5)
	for i := range one {
		one[i] = "changed"
	}
	if want := []string{"x", "www", "a"}; !slices.Equal(two, want) {
		t.Errorf("Get keeps what it was handed, or shares its answers: %q", two)
	}
}

// read tells what Get answers as the document does, by calling itself at each
// pointer.
func read(b []byte, at, began, size int) (n []string, next int, e api.Errno) {
	for {
		if at >= len(b) {
			return nil, 0, api.ErrShort
		}
		c := int(b[at])
		switch {
		case c == 0:
			return n, at + 1, api.OK
		case c >= 192:
			if at+1 == len(b) {
				return nil, 0, api.ErrShort
			}
			to := (c-192)*256 + int(b[at+1])
			if to >= began {
				return nil, 0, api.ErrLoop
			}
			more, _, e := read(b, to, to, size)
			if e != api.OK {
				return nil, 0, e
			}
			return append(n, more...), at + 2, api.OK
		case c >= 64:
			return nil, 0, api.ErrName
		case at+c >= len(b):
			return nil, 0, api.ErrShort
		case size+1+c > 255:
			return nil, 0, api.ErrName
		}
		n = append(n, string(b[at+1:at+1+c]))
		size += 1 + c
		at += 1 + c
	}
}

func hold(t *testing.T, b []byte, at int) {
	t.Helper()
	want, wantNext, wantE := read(b, at, at, 1)
	if n, next, e := wname.Get(b, at); e != wantE || next != wantNext || !slices.Equal(n, want) {
		t.Fatalf("Get(%q, %d): %q, %d, %d, not %q, %d, %d", b, at, n, next, e, want, wantNext, wantE)
	}
}

// All lists of up to six of some bytes.
func TestGetOfAllShortLists(t *testing.T) {
	some := []byte{0, 1, 2, 3, 63, 64, 191, 192}
	var longer func(b []byte)
	longer = func(b []byte) {
		for at := range len(b) + 2 {
			hold(t, b, at)
		}
		if len(b) == 6 {
			return
		}
		for _, c := range some {
			longer(append(b[:len(b):len(b)], c))
		}
	}
	longer(nil)
}

func TestGetOfManyBytes(t *testing.T) {
	draw := rand.New(rand.NewSource(3))
	for range 3000 {
		b := make([]byte, draw.Intn(700))
		for i := range b {
			switch draw.Intn(8) {
			case 0:
				b[i] = 192 + byte(draw.Intn(3))
			case 1:
				b[i] = byte(draw.Intn(256))
			case 2:
				b[i] = 63
			default:
				b[i] = byte(draw.Intn(6))
			}
		}
		for at := range len(b) + 1 {
			hold(t, b, at)
		}
	}
}
