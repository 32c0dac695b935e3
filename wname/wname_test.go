package wname_test

import (
	"bytes"
	"math"
	"math/rand"
	"slices"
	"strings"
	"testing"

	"gazetteer/api"
	"gazetteer/wname"
)

// call is a name that is handed to Name.
type call struct {
	n     []string
	short bool
	want  string // the bytes that come behind
}

// write hands the names to w one behind the other.
func write(t *testing.T, w *wname.Writer, calls []call) {
	t.Helper()
	for _, c := range calls {
		ahead := string(w.Bytes())
		if e := w.Name(c.n, c.short); e != api.OK {
			t.Errorf("Name(%q, %v): %d", c.n, c.short, e)
		}
		if got := string(w.Bytes()); got != ahead+c.want {
			t.Errorf("Name(%q, %v): behind %q stands %q, not %q", c.n, c.short, ahead, strings.TrimPrefix(got, ahead), c.want)
		}
	}
}

// label makes a label of size bytes.
func label(size int) string {
	return strings.Repeat("a", size)
}

// times makes a name of count labels with size bytes each.
func times(count, size int) []string {
	var n []string
	for range count {
		n = append(n, label(size))
	}
	return n
}

// greatest has, by size, the greatest number that fits.
var greatest = [8]int{
	1: 0xff,
	2: 0xffff,
	3: 0xffffff,
	4: 0xffffffff,
	5: 0xffffffffff,
	6: 0xffffffffffff,
	7: 0xffffffffffffff,
}

func TestNewHasNothing(t *testing.T) {
	w := wname.New()
	if w == nil || len(w.Bytes()) != 0 || w.Len() != 0 {
		t.Fatalf("New: %v", w)
	}
	w.Raw([]byte{1})
	if w = wname.New(); len(w.Bytes()) != 0 || w.Len() != 0 {
		t.Errorf("the second New: %v", w.Bytes())
	}
}

func TestRawAndNumComeBehind(t *testing.T) {
	w := wname.New()
	steps := []struct {
		do   func()
		want string
	}{
		{func() { w.Raw(nil) }, ""},
		{func() { w.Raw([]byte{}) }, ""},
		{func() { w.Raw([]byte{9, 8}) }, "\x09\x08"},
		{func() { w.Num(258, 2) }, "\x01\x02"},
		{func() { w.Num(0, 1) }, "\x00"},
		{func() { w.Raw(nil) }, ""},
		{func() { w.Num(1, 7) }, "\x00\x00\x00\x00\x00\x00\x01"},
		{func() { w.Raw([]byte{0, 255}) }, "\x00\xff"},
		{func() { w.Num(0xfffefdfc, 4) }, "\xff\xfe\xfd\xfc"},
		{func() { w.Name([]string{"a"}, false) }, "\x01a\x00"},
		{func() { w.Raw(w.Bytes()[:3]) }, "\x09\x08\x01"},
	}
	want := ""
	for i, s := range steps {
		s.do()
		want += s.want
		if got := string(w.Bytes()); got != want || w.Len() != len(want) {
			t.Errorf("behind step %d: %q, %d, not %q", i, got, w.Len(), want)
		}
	}
}

func TestNumAtItsEnds(t *testing.T) {
	for size := 1; size <= 7; size++ {
		for _, n := range []int{0, greatest[size]} {
			w := wname.New()
			w.Num(n, size)
			if want := bytes.Repeat([]byte{byte(n)}, size); !bytes.Equal(w.Bytes(), want) {
				t.Errorf("Num(%d, %d): %v", n, size, w.Bytes())
			}
		}
	}
}

// misfits are numbers and sizes that do not fit.
func misfits() [][2]int {
	var out [][2]int
	for size := 1; size <= 7; size++ {
		for _, n := range []int{greatest[size] + 1, math.MaxInt, -1, -256, math.MinInt} {
			out = append(out, [2]int{n, size})
		}
	}
	for _, size := range []int{0, 8, 9, 256, 257, 1<<32 + 1, 1<<61 + 1, math.MaxInt, -1, -7, math.MinInt} {
		for _, n := range []int{0, 1, -1, math.MaxInt, math.MinInt} {
			out = append(out, [2]int{n, size})
		}
	}
	return out
}

func TestNumThatDoesNotFit(t *testing.T) {
	for _, m := range misfits() {
		w := wname.New()
		w.Num(m[0], m[1])
		w.Raw([]byte{5})
		w.Num(m[0], m[1])
		if got := w.Bytes(); !bytes.Equal(got, []byte{5}) || w.Len() != 1 {
			t.Errorf("Num(%d, %d): %v", m[0], m[1], got)
		}
	}
}

func TestSet(t *testing.T) {
	for size := 1; size <= 7; size++ {
		for at := 0; at+size <= 9; at++ {
			for _, n := range []int{0, 1, greatest[size] - 1, greatest[size]} {
				w := wname.New()
				w.Raw([]byte("abcdefghi"))
				want := w.Bytes()
				for i := range size {
					want[at+i] = byte(n >> (8 * (size - 1 - i)))
				}
				if e := w.Set(at, n, size); e != api.OK || !bytes.Equal(w.Bytes(), want) || w.Len() != 9 {
					t.Errorf("Set(%d, %d, %d): %d, %v, not %v", at, n, size, e, w.Bytes(), want)
				}
			}
		}
	}
}

func TestSetThenMore(t *testing.T) {
	w := wname.New()
	w.Num(0, 2)
	w.Name([]string{"a"}, false)
	if e := w.Set(0, 258, 2); e != api.OK {
		t.Errorf("Set: %d", e)
	}
	w.Raw([]byte{7})
	if e := w.Set(5, 8, 1); e != api.OK {
		t.Errorf("Set of the last byte: %d", e)
	}
	w.Num(9, 1)
	if got := string(w.Bytes()); got != "\x01\x02\x01a\x00\x08\x09" {
		t.Errorf("%q", got)
	}
}

func TestSetRefused(t *testing.T) {
	refuse := func(have, at, n, size int) {
		t.Helper()
		w := wname.New()
		b := bytes.Repeat([]byte{77}, have)
		w.Raw(b)
		if e := w.Set(at, n, size); e != api.ErrArg || !bytes.Equal(w.Bytes(), b) || w.Len() != have {
			t.Errorf("Set(%d, %d, %d) of %d bytes: %d, %v", at, n, size, have, e, w.Bytes())
		}
	}
	for _, m := range misfits() {
		for _, at := range []int{0, 3, 12, -1, math.MaxInt, math.MinInt} {
			refuse(12, at, m[0], m[1])
		}
	}
	for have := 0; have <= 9; have++ {
		for size := 1; size <= 7; size++ {
			for _, at := range []int{have - size + 1, have, have + 1, 1 << 32, math.MaxInt - size, math.MaxInt} {
				refuse(have, max(at, 0), 1, size)
			}
			for _, at := range []int{-1, -2, -size, -have - 1, math.MinInt, math.MinInt + 1} {
				refuse(have, at, 1, size)
			}
		}
	}
}

// What is written takes more room than it has bytes: Set may not reach there.
func TestSetDoesNotReachSpareRoom(t *testing.T) {
	w := wname.New()
	for have := range 40 {
		for size := 1; size <= 7; size++ {
			if e := w.Set(max(have-size+1, 0), 1, size); e != api.ErrArg {
				t.Errorf("Set of %d bytes at the end of %d: %d", size, have, e)
			}
		}
		w.Num(0, 1)
	}
	if got := w.Bytes(); !bytes.Equal(got, make([]byte, 40)) {
		t.Errorf("%v", got)
	}
}

func TestNilWriter(t *testing.T) {
	var w *wname.Writer
	w.Raw([]byte{1})
	w.Raw(nil)
	w.Num(1, 1)
	w.Num(-1, 9)
	for _, n := range [][]string{nil, {"a"}, {""}} {
		for _, short := range []bool{false, true} {
			if e := w.Name(n, short); e != api.ErrArg {
				t.Errorf("Name(%q, %v) of nil: %d", n, short, e)
			}
		}
	}
	for _, at := range []int{0, 1, -1, -2, math.MaxInt, math.MinInt} {
		for _, size := range []int{0, 1, 2, 7, 8} {
			if e := w.Set(at, 0, size); e != api.ErrArg {
				t.Errorf("Set(%d, 0, %d) of nil: %d", at, size, e)
			}
		}
	}
	if b := w.Bytes(); len(b) != 0 || w.Len() != 0 {
		t.Errorf("nil has %v, %d", b, w.Len())
	}
}

func TestZeroWriter(t *testing.T) {
	var w wname.Writer
	if len(w.Bytes()) != 0 || w.Len() != 0 || w.Set(0, 0, 1) != api.ErrArg {
		t.Errorf("the zero Writer has %v", w.Bytes())
	}
	write(t, &w, []call{
		{[]string{"a", "b"}, true, "\x01a\x01b\x00"},
		{[]string{"b"}, true, "\xc0\x02"},
	})
	var short wname.Writer
	write(t, &short, []call{{nil, true, "\x00"}, {[]string{"a"}, false, "\x01a\x00"}, {[]string{"a"}, true, "\xc0\x01"}})
}

func TestNameWithoutShort(t *testing.T) {
	write(t, wname.New(), []call{
		{nil, false, "\x00"},
		{[]string{}, false, "\x00"},
		{[]string{"a"}, false, "\x01a\x00"},
		{[]string{"a"}, false, "\x01a\x00"},
		{[]string{"www", "example"}, false, "\x03www\x07example\x00"},
		{[]string{"www", "example"}, false, "\x03www\x07example\x00"},
		{[]string{"a.b", "\x00", "\xff\\"}, false, "\x03a.b\x01\x00\x02\xff\\\x00"},
		{[]string{"A", "a", "\xc3\xa4"}, false, "\x01A\x01a\x02\xc3\xa4\x00"},
		{[]string{label(63)}, false, "\x3f" + label(63) + "\x00"},
		{times(127, 1), false, strings.Repeat("\x01a", 127) + "\x00"},
	})
}

func TestNameThatIsNotSound(t *testing.T) {
	for _, n := range [][]string{
		{""}, {"", ""}, {"a", ""}, {"", "a"}, {"a", "", "b"},
		{label(64)}, {label(256)}, {label(257)}, {"a", label(64)}, {label(64), "a"}, {label(1000), "a"},
		times(128, 1), append(times(126, 1), "ab"), times(4, 63), {label(63), label(63), label(63), label(62)},
		times(10000, 1),
	} {
		for _, short := range []bool{false, true} {
			w := wname.New()
			if e := w.Name(n, short); e != api.ErrName || len(w.Bytes()) != 0 || w.Len() != 0 {
				t.Errorf("Name of %d labels, %v: %d, %v", len(n), short, e, w.Bytes())
			}
			write(t, w, []call{{[]string{"b"}, false, "\x01b\x00"}})
			if e := w.Name(n, short); e != api.ErrName || w.Len() != 3 {
				t.Errorf("Name of %d labels, %v, behind one: %d, %v", len(n), short, e, w.Bytes())
			}
		}
	}
}

// What is refused leaves no rests behind, whole or in part.
func TestRefusedNameIsNoRest(t *testing.T) {
	for _, n := range [][]string{{"", "b"}, {"a", "", "b"}, {"b", ""}, {label(64), "b"}, append(times(127, 1), "b")} {
		w := wname.New()
		w.Name(n, true)
		w.Name(n, false)
		write(t, w, []call{{[]string{"b"}, true, "\x01b\x00"}, {[]string{"b"}, true, "\xc0\x00"}})
	}
}

func TestShortExample(t *testing.T) {
	write(t, wname.New(), []call{
		{[]string{"a", "b"}, true, "\x01a\x01b\x00"},
		{[]string{"b"}, true, "\xc0\x02"},
	})
}

func TestShortLeadsToTheLongestRest(t *testing.T) {
	write(t, wname.New(), []call{
		{[]string{"www", "a", "b"}, true, "\x03www\x01a\x01b\x00"},
		{[]string{"www", "a", "b"}, true, "\xc0\x00"},
		{[]string{"a", "b"}, true, "\xc0\x04"},
		{[]string{"x", "www", "a", "b"}, true, "\x01x\xc0\x00"},
		{[]string{"x", "a", "b"}, true, "\x01x\xc0\x04"},
		{[]string{"x", "b"}, true, "\x01x\xc0\x06"},
		{[]string{"www", "b"}, true, "\x03www\xc0\x06"},
		{[]string{"y", "x", "b"}, true, "\x01y\xc0\x15"},
		{[]string{"www"}, true, "\x03www\x00"},
		{[]string{"a"}, true, "\x01a\x00"},
		{[]string{"b", "a"}, true, "\x01b\xc0\x28"},
	})
}

// A rest that goes on behind a pointer is one as any other.
func TestShortFollowsPointers(t *testing.T) {
	write(t, wname.New(), []call{
		{[]string{"b"}, true, "\x01b\x00"},
		{[]string{"a", "b"}, true, "\x01a\xc0\x00"},
		{[]string{"d", "c", "a", "b"}, true, "\x01d\x01c\xc0\x03"},
		{[]string{"c", "a", "b"}, true, "\xc0\x09"},
		{[]string{"e", "d", "c", "a", "b"}, true, "\x01e\xc0\x07"},
		{[]string{"a", "b"}, true, "\xc0\x03"},
		{[]string{"d", "c"}, true, "\x01d\x01c\x00"},
		{[]string{"d", "c", "a"}, true, "\x01d\x01c\x01a\x00"},
	})
}

func TestShortLeadsToTheFirstPlace(t *testing.T) {
	write(t, wname.New(), []call{
		{[]string{"a", "b"}, false, "\x01a\x01b\x00"},
		{[]string{"a", "b"}, false, "\x01a\x01b\x00"},
		{[]string{"c", "b"}, false, "\x01c\x01b\x00"},
		{[]string{"c", "b"}, false, "\x01c\x01b\x00"},
		{[]string{"b"}, true, "\xc0\x02"},
		{[]string{"a", "b"}, true, "\xc0\x00"},
		{[]string{"c", "b"}, true, "\xc0\x0a"},
		{[]string{"d", "c", "b"}, true, "\x01d\xc0\x0a"},
	})
}

// Names that were written without short are rests as well.
func TestShortBehindWithoutShort(t *testing.T) {
	write(t, wname.New(), []call{
		{[]string{"a", "b"}, true, "\x01a\x01b\x00"},
		{[]string{"x", "b"}, false, "\x01x\x01b\x00"},
		{[]string{"x", "b"}, true, "\xc0\x05"},
		{[]string{"b"}, true, "\xc0\x02"},
		{[]string{"b"}, false, "\x01b\x00"},
		{[]string{"b"}, true, "\xc0\x02"},
	})
}

func TestShortIsByteByByte(t *testing.T) {
	write(t, wname.New(), []call{
		{[]string{"a", "b"}, true, "\x01a\x01b\x00"},
		{[]string{"A", "b"}, true, "\x01A\xc0\x02"},
		{[]string{"a", "B"}, true, "\x01a\x01B\x00"},
		{[]string{"B"}, true, "\xc0\x0b"},
		{[]string{"A", "b"}, true, "\xc0\x05"},
		{[]string{"ab"}, true, "\x02ab\x00"},
		{[]string{"a.b"}, true, "\x03a.b\x00"},
		{[]string{"a\x01b"}, true, "\x03a\x01b\x00"},
		{[]string{"\x01b"}, true, "\x02\x01b\x00"},
		{[]string{"\xc3"}, true, "\x01\xc3\x00"},
		{[]string{"\xe3"}, true, "\x01\xe3\x00"},
		{[]string{"\xff", "\xc3"}, true, "\x01\xff\xc0\x24"},
	})
}

func TestRootIsNoRest(t *testing.T) {
	write(t, wname.New(), []call{
		{nil, true, "\x00"}, {nil, true, "\x00"}, {nil, false, "\x00"},
		{[]string{"a"}, true, "\x01a\x00"}, {[]string{}, true, "\x00"},
	})
}

// Rests are what Name wrote: not what looks like a name, nor a pointer.
func TestOnlyNameWritesRests(t *testing.T) {
	w := wname.New()
	w.Raw([]byte("\x01a\x00"))
	w.Num(0x016200, 3)
	write(t, w, []call{
		{[]string{"a"}, true, "\x01a\x00"},
		{[]string{"b"}, true, "\x01b\x00"},
		{[]string{"a"}, true, "\xc0\x06"},
		{[]string{"a"}, true, "\xc0\x06"},
		{[]string{"c", "a"}, true, "\x01c\xc0\x06"},
	})
}

// A name has no rests of its own: it was not written before.
func TestNameOfTheSameLabels(t *testing.T) {
	write(t, wname.New(), []call{
		{[]string{"a", "a", "a"}, true, "\x01a\x01a\x01a\x00"},
		{[]string{"a", "a", "a", "a"}, true, "\x01a\xc0\x00"},
		{[]string{"a", "a"}, true, "\xc0\x02"},
		{[]string{"a"}, true, "\xc0\x04"},
	})
}

func TestShortOfTheLongestName(t *testing.T) {
	n := times(127, 1)
	calls := []call{{n, true, strings.Repeat("\x01a", 127) + "\x00"}}
	for i := range n {
		calls = append(calls, call{n[i:], true, "\xc0" + string([]byte{byte(2 * i)})})
	}
	write(t, wname.New(), calls)
	long := []string{label(63), label(63), label(63), label(61)}
	write(t, wname.New(), []call{
		{long, true, "\x3f" + label(63) + "\x3f" + label(63) + "\x3f" + label(63) + "\x3d" + label(61) + "\x00"},
		{long, true, "\xc0\x00"},
		{long[2:], true, "\xc0\x80"},
		{[]string{label(62), long[3]}, true, "\x3e" + label(62) + "\xc0\xc0"},
	})
}

func TestPlacesBelow16384(t *testing.T) {
	for _, c := range []struct {
		at   int
		want []call
	}{
		{255, []call{{[]string{"b"}, true, "\xc1\x01"}, {[]string{"a", "b"}, true, "\xc0\xff"}}},
		{16380, []call{{[]string{"b"}, true, "\xff\xfe"}, {[]string{"a", "b"}, true, "\xff\xfc"}}},
		{16381, []call{{[]string{"b"}, true, "\xff\xff"}, {[]string{"a", "b"}, true, "\xff\xfd"}}},
		{16382, []call{{[]string{"b"}, true, "\x01b\x00"}, {[]string{"b"}, true, "\x01b\x00"}, {[]string{"a", "b"}, true, "\xff\xfe"}}},
		{16383, []call{{[]string{"x", "b"}, true, "\x01x\x01b\x00"}, {[]string{"a", "b"}, true, "\xff\xff"}, {[]string{"x", "a", "b"}, true, "\x01x\xff\xff"}}},
		{16384, []call{{[]string{"a", "b"}, true, "\x01a\x01b\x00"}, {[]string{"a", "b"}, true, "\x01a\x01b\x00"}}},
		{16385, []call{{[]string{"a", "b"}, true, "\x01a\x01b\x00"}, {[]string{"b"}, true, "\x01b\x00"}}},
		{32768, []call{{[]string{"a", "b"}, true, "\x01a\x01b\x00"}}},
		{65536, []call{{[]string{"a", "b"}, true, "\x01a\x01b\x00"}}},
	} {
		for _, short := range []bool{false, true} {
			w := wname.New()
			w.Raw(make([]byte, c.at))
			write(t, w, append([]call{{[]string{"a", "b"}, short, "\x01a\x01b\x00"}}, c.want...))
		}
	}
}

// A pointer may itself stand anywhere: only the place to which it leads counts.
func TestPointerFromFarBehind(t *testing.T) {
	w := wname.New()
	write(t, w, []call{{[]string{"a", "b"}, true, "\x01a\x01b\x00"}})
	w.Raw(make([]byte, 70000))
	write(t, w, []call{
		{[]string{"x", "b"}, true, "\x01x\xc0\x02"},
		{[]string{"x", "b"}, true, "\x01x\xc0\x02"},
		{[]string{"a", "b"}, true, "\xc0\x00"},
	})
	at := w.Len()
	w.Name([]string{"y", "a", "b"}, true)
	if n, next, e := wname.Get(w.Bytes(), at); e != api.OK || next != at+4 || !slices.Equal(n, []string{"y", "a", "b"}) {
		t.Errorf("Get(%d): %q, %d, %d", at, n, next, e)
	}
}

func TestWritersAreTheirOwn(t *testing.T) {
	one, two := wname.New(), wname.New()
	write(t, one, []call{{[]string{"a"}, true, "\x01a\x00"}})
	write(t, two, []call{{[]string{"b", "a"}, true, "\x01b\x01a\x00"}})
	write(t, one, []call{{[]string{"b"}, true, "\x01b\x00"}, {[]string{"a"}, true, "\xc0\x00"}})
	write(t, two, []call{{[]string{"a"}, true, "\xc0\x02"}})
	write(t, wname.New(), []call{{[]string{"a"}, true, "\x01a\x00"}})
}

func TestBytesAreNewMemory(t *testing.T) {
	w := wname.New()
	for i := range 20 {
		w.Name([]string{"a", string([]byte{'b' + byte(i)})}, true)
		want := string(w.Bytes())
		one, two := w.Bytes(), w.Bytes()
		fill(one, 99)
		if string(two) != want || string(w.Bytes()) != want {
			t.Fatalf("Bytes shares its memory: %q, %q", two, w.Bytes())
		}
		w.Num(0, 1)
		w.Set(0, 1, 1)
		if string(two) != want {
			t.Fatalf("Bytes changed by Set: %q", two)
		}
	}
}

func TestRawIsNotKept(t *testing.T) {
	room := bytes.Repeat([]byte{77}, 64)
	w := wname.New()
	w.Raw(room[:3])
	w.Num(1, 2)
	w.Name([]string{"a"}, true)
	w.Set(0, 1, 3)
	if !bytes.Equal(room, bytes.Repeat([]byte{77}, 64)) {
		t.Errorf("what Raw was handed is changed: %v", room)
	}
	fill(room, 5)
	if got := string(w.Bytes()); got != "\x00\x00\x01\x00\x01\x01a\x00" {
		t.Errorf("what Raw was handed is kept: %q", got)
	}
}

func TestNameLeavesWhatItIsHanded(t *testing.T) {
	room := []string{"A", "b", "c", "d"}
	w := wname.New()
	for range 2 {
		for _, short := range []bool{false, true} {
			w.Name(room[:2], short)
		}
	}
	if !slices.Equal(room, []string{"A", "b", "c", "d"}) {
		t.Errorf("%q", room)
	}
	room[0], room[1] = "x", "y"
	w = wname.New()
	write(t, w, []call{{room[:2], true, "\x01x\x01y\x00"}})
	room[0], room[1] = "p", "q"
	write(t, w, []call{{room[:2], true, "\x01p\x01q\x00"}, {[]string{"x", "y"}, true, "\xc0\x00"}})
}

func fill(b []byte, x byte) {
	b = b[:cap(b)]
	for i := range b {
		b[i] = x
	}
}

// rest is a rest as the document tells it, kept as labels in a list.
type rest struct {
	at     int
	labels []string
}

// model writes names as the document tells it.
type model struct {
	out   []byte
	rests []rest
}

func (m *model) seek(labels []string) (int, bool) {
	for _, r := range m.rests {
		if r.at < 16384 && slices.Equal(r.labels, labels) {
			return r.at, true
		}
	}
	return 0, false
}

func (m *model) name(n []string, short bool) {
	var fresh []rest
	for i, l := range n {
		if at, ok := m.seek(n[i:]); ok && short {
			m.out = append(m.out, 0xc0|byte(at>>8), byte(at))
			m.rests = append(m.rests, fresh...)
			return
		}
		fresh = append(fresh, rest{len(m.out), slices.Clone(n[i:])})
		m.out = append(append(m.out, byte(len(l))), l...)
	}
	m.out = append(m.out, 0)
	m.rests = append(m.rests, fresh...)
}

// Many names of few labels are held against the model, and read again.
func TestManyNames(t *testing.T) {
	labels := []string{"a", "A", "b", "ab", "a\x01b", "\x01", "\xc0", label(63)}
	for seed := range 60 {
		draw := rand.New(rand.NewSource(int64(seed)))
		w, m := wname.New(), &model{}
		if seed%3 == 0 {
			gap := make([]byte, 16384-200+draw.Intn(200))
			w.Raw(gap)
			m.out = append(m.out, gap...)
		}
		for range 200 {
			var n []string
			for range draw.Intn(4) {
				n = append(n, labels[draw.Intn(len(labels))])
			}
			at, short := w.Len(), draw.Intn(3) > 0
			e := w.Name(n, short)
			m.name(n, short)
			if e != api.OK || !bytes.Equal(w.Bytes(), m.out) || w.Len() != len(m.out) {
				t.Fatalf("seed %d: Name(%q, %v): %d, %q, not %q", seed, n, short, e, w.Bytes()[at:], m.out[at:])
			}
			if got, next, e := wname.Get(w.Bytes(), at); e != api.OK || next != w.Len() || !slices.Equal(got, n) {
				t.Fatalf("seed %d: Get of Name(%q, %v): %q, %d, %d", seed, n, short, got, next, e)
			}
		}
	}
}
