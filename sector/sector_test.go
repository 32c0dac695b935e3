package sector_test

import (
	"bytes"
	"fmt"
	"math"
	"slices"
	"testing"

	"gazetteer/api"
	"gazetteer/sector"
)

// The bytes of a sector, ahead of its data, and of data at most.
const (
	ahead = 16
	most  = 496
)

// plain is a head that may be, each number another one.
var plain = sector.Head{Kind: 9, Epoch: 8, Seq: 7, Part: 2, Parts: 6}

// fields are a head's numbers, each with its greatest one; written out, so that
// the tests do not count as the package does.
func fields() []struct {
	name     string
	of       func(h *sector.Head) *int
	greatest int
} {
	return []struct {
		name     string
		of       func(h *sector.Head) *int
		greatest int
	}{
		{"Kind", func(h *sector.Head) *int { return &h.Kind }, 0xff},
		{"Epoch", func(h *sector.Head) *int { return &h.Epoch }, 0xffffffff},
		{"Seq", func(h *sector.Head) *int { return &h.Seq }, 0xffffffffffffff},
		{"Part", func(h *sector.Head) *int { return &h.Part }, 0xff},
		{"Parts", func(h *sector.Head) *int { return &h.Parts }, 0xff},
	}
}

// full answers b and noughts behind it, 512 bytes in all.
func full(b ...byte) []byte {
	return append(slices.Clone(b), make([]byte, 512-len(b))...)
}

// some are as many bytes, none of them 0.
func some(size int) []byte {
	b := make([]byte, size)
	for i := range b {
		b[i] = byte(i%255) + 1
	}
	return b
}

// tell is bytes as text, the noughts at their end left out.
func tell(b []byte) string {
	return fmt.Sprintf("%d bytes %x", len(b), bytes.TrimRight(b, "\x00"))
}

// sealed is a sector that Seal makes.
func sealed(t *testing.T, h sector.Head, data []byte) []byte {
	t.Helper()
	b, e := sector.Seal(h, data)
	if e != api.OK || len(b) != 512 {
		t.Fatalf("Seal(%+v, %d bytes): %d bytes, %d", h, len(data), len(b), e)
	}
	return b
}

// seals holds Seal against the bytes told, and Open against what was sealed.
func seals(t *testing.T, h sector.Head, data, want []byte) {
	t.Helper()
	if b, e := sector.Seal(h, data); e != api.OK || !bytes.Equal(b, want) {
		t.Errorf("Seal(%+v, %s): %s, %d, not %s", h, tell(data), tell(b), e, tell(want))
	}
	opens(t, want, h, data)
}

// refuses holds Seal's error, and that nothing is beside it.
func refuses(t *testing.T, h sector.Head, data []byte, want api.Errno) {
	t.Helper()
	if b, e := sector.Seal(h, data); e != want || b != nil {
		t.Errorf("Seal(%+v, %d bytes): %s, %d, not %d", h, len(data), tell(b), e, want)
	}
}

func opens(t *testing.T, b []byte, h sector.Head, data []byte) {
	t.Helper()
	if g, d, e := sector.Open(b); e != api.OK || g != h || !bytes.Equal(d, data) {
		t.Errorf("Open(%s): %+v, %s, %d, not %+v, %s", tell(b), g, tell(d), e, h, tell(data))
	}
}

// fails holds Open's error, and that nothing is beside it.
func fails(t *testing.T, b []byte, want api.Errno) {
	t.Helper()
	if h, data, e := sector.Open(b); e != want || h != (sector.Head{}) || data != nil {
		t.Errorf("Open(%s): %+v, %s, %d, not %d", tell(b), h, tell(data), e, want)
	}
}

func TestSectorsAsBytes(t *testing.T) {
	const m = 0xff
	seals(t, sector.Head{Kind: 1, Parts: 1}, nil, full(1, 0, 0, 0, 0, 0, 0, 0, 0, 0, 0, 0, 0, 1))
	seals(t, sector.Head{Kind: 2, Epoch: 3, Seq: 1 << 40, Part: 1, Parts: 2}, []byte{7, 8},
		full(2, 0, 0, 0, 3, 0, 1, 0, 0, 0, 0, 0, 1, 2, 0, 2, 7, 8))
	seals(t, sector.Head{Kind: 0x11, Epoch: 0x21222324, Seq: 0x31323334353637, Part: 0x41, Parts: 0x51}, []byte{0x61},
		full(0x11, 0x21, 0x22, 0x23, 0x24, 0x31, 0x32, 0x33, 0x34, 0x35, 0x36, 0x37, 0x41, 0x51, 0, 1, 0x61))
	seals(t, sector.Head{Kind: 0xff, Epoch: 0xffffffff, Seq: 0xffffffffffffff, Part: 0xfe, Parts: 0xff}, nil,
		full(m, m, m, m, m, m, m, m, m, m, m, m, 0xfe, m, 0, 0))
	seals(t, sector.Head{Kind: 0x80, Epoch: 0x80000000, Seq: 0x80000000000000, Part: 0x80, Parts: 0x81}, []byte{0},
		full(0x80, 0x80, 0, 0, 0, 0x80, 0, 0, 0, 0, 0, 0, 0x80, 0x81, 0, 1, 0))
}

func TestDataOfAnySize(t *testing.T) {
	head := []byte{9, 0, 0, 0, 8, 0, 0, 0, 0, 0, 0, 7, 2, 6}
	for size := 0; size <= most; size++ {
		want := append(append(slices.Clone(head), byte(size>>8), byte(size)), some(size)...)
		seals(t, plain, some(size), full(want...))
	}
	for _, size := range []int{most + 1, most + 2, 510, 511, 512, 513, 1024, 65535, 65536, 65537, 65536 + most, 1 << 20} {
		refuses(t, plain, some(size), api.ErrLarge)
	}
	for _, data := range [][]byte{nil, {}} {
		seals(t, plain, data, full(head...))
	}
}

// Noughts at the end of the data are of the data, not those behind it.
func TestDataOfNoughts(t *testing.T) {
	head := []byte{9, 0, 0, 0, 8, 0, 0, 0, 0, 0, 0, 7, 2, 6}
	for size := 0; size <= most; size++ {
		want := full(append(slices.Clone(head), byte(size>>8), byte(size))...)
		seals(t, plain, make([]byte, size), want)
	}
}

func TestNumbersThatFit(t *testing.T) {
	for _, f := range fields() {
		for n := f.greatest; n > 0; n /= 2 {
			h := plain
			h.Parts = 255
			*f.of(&h) = n
			if h.Part >= h.Parts {
				h.Part = h.Parts - 1
			}
			opens(t, sealed(t, h, []byte{1, 2, 3}), h, []byte{1, 2, 3})
		}
	}
}

func TestNumbersThatDoNotFit(t *testing.T) {
	for _, f := range fields() {
		for _, n := range []int{
			f.greatest + 1, f.greatest + 2, 2*f.greatest + 2, 1 << 56, 1<<56 + 1, 1 << 62, math.MaxInt - 1, math.MaxInt,
			-1, -2, -255, -256, -f.greatest, -f.greatest - 1, math.MinInt + 1, math.MinInt,
		} {
			h := plain
			*f.of(&h) = n
			refuses(t, h, nil, api.ErrRange)
			refuses(t, h, some(most), api.ErrRange)
		}
	}
}

// Part and Parts agree with each other here: it is that they do not fit.
func TestPartsThatDoNotFit(t *testing.T) {
	for _, p := range [][2]int{
		{0, 256}, {255, 256}, {255, 257}, {256, 257}, {0, math.MaxInt}, {math.MaxInt - 1, math.MaxInt},
		{-1, 1}, {-1, 255}, {-256, 1}, {-1, 0}, {-2, -1}, {math.MinInt, 1}, {math.MinInt, math.MaxInt},
	} {
		h := plain
		h.Part, h.Parts = p[0], p[1]
		refuses(t, h, nil, api.ErrRange)
	}
}

func TestNoughts(t *testing.T) {
	seals(t, sector.Head{Kind: 1, Epoch: 0, Seq: 0, Part: 0, Parts: 255}, []byte{5},
		full(1, 0, 0, 0, 0, 0, 0, 0, 0, 0, 0, 0, 0, 255, 0, 1, 5))
	refuses(t, sector.Head{}, nil, api.ErrRange)
	refuses(t, sector.Head{Parts: 1}, nil, api.ErrRange)
	refuses(t, sector.Head{Kind: 1}, nil, api.ErrRange)
	refuses(t, sector.Head{Epoch: 2, Seq: 3, Part: 4, Parts: 5}, nil, api.ErrRange)
	refuses(t, sector.Head{Kind: 1, Epoch: 2, Seq: 3}, nil, api.ErrRange)
}

func TestPartIsBelowParts(t *testing.T) {
	for part := range 256 {
		for parts := range 256 {
			h := sector.Head{Kind: 1, Part: part, Parts: parts}
			want := full(1, 0, 0, 0, 0, 0, 0, 0, 0, 0, 0, 0, byte(part), byte(parts))
			if part < parts {
				seals(t, h, nil, want)
			} else {
				refuses(t, h, nil, api.ErrRange)
				fails(t, want, api.ErrText)
			}
		}
	}
}

// ErrRange comes ahead of ErrLarge: so the data here is too large as well.
func TestWhichErrorOfSeal(t *testing.T) {
	for _, h := range []sector.Head{
		{}, {Parts: 1}, {Kind: 1}, {Kind: 256, Parts: 1}, {Kind: -1, Parts: 1}, {Kind: 1, Part: 1, Parts: 1},
		{Kind: 1, Epoch: 1 << 32, Parts: 1}, {Kind: 1, Seq: 1 << 56, Parts: 1}, {Kind: 1, Part: -1, Parts: 1},
		{Kind: 1, Part: 256, Parts: 257}, {Kind: 1, Parts: 256},
	} {
		for _, size := range []int{0, most, most + 1, 512, 65536} {
			refuses(t, h, some(size), api.ErrRange)
		}
	}
}

func TestOpenOfNoSectorSize(t *testing.T) {
	good := sealed(t, plain, some(most))
	for _, b := range [][]byte{good, sealed(t, plain, nil), full(), bytes.Repeat([]byte{255}, 512)} {
		for size := range 512 {
			fails(t, b[:size], api.ErrShort)
		}
		for _, more := range []int{1, 2, 16, 511, 512, 513, 65536 - 512, 65536, 1 << 20} {
			fails(t, append(slices.Clone(b), make([]byte, more)...), api.ErrShort)
		}
	}
	fails(t, nil, api.ErrShort)
	fails(t, []byte{}, api.ErrShort)
	opens(t, good, plain, some(most))
}

func TestOpenOfOtherBytes(t *testing.T) {
	fails(t, full(), api.ErrText)
	for x := range 255 {
		fails(t, bytes.Repeat([]byte{byte(x + 1)}, 512), api.ErrText)
	}
}

func TestOpenOfCounts(t *testing.T) {
	b := append([]byte{9, 0, 0, 0, 8, 0, 0, 0, 0, 0, 0, 7, 2, 6, 0, 0}, make([]byte, most)...)
	for count := range 65536 {
		b[14], b[15] = byte(count>>8), byte(count)
		if count <= most {
			opens(t, b, plain, make([]byte, count))
		} else {
			fails(t, b, api.ErrText)
		}
	}
}

// A byte that is not 0 may stand in the data alone, wherever it ends.
func TestOpenOfBytesBehindTheData(t *testing.T) {
	for _, size := range []int{0, 1, 2, 255, 256, 257, most - 2, most - 1, most} {
		for at := range most {
			b := sealed(t, plain, make([]byte, size))
			b[ahead+at] = byte(at%255) + 1
			if at < size {
				opens(t, b, plain, b[ahead:ahead+size])
			} else {
				fails(t, b, api.ErrText)
			}
		}
	}
}

// Each byte ahead of the data tells one thing, or nothing: whatever it is, what is
// opened is what makes the same bytes.
func TestOpenOfHeads(t *testing.T) {
	good := sealed(t, plain, []byte{1, 2, 3, 0})
	for at := range ahead {
		for x := range 256 {
			b := slices.Clone(good)
			b[at] = byte(x)
			bad := at == 0 && x == 0 || at == 12 && x >= 6 || at == 13 && x <= 2 || at == 14 && x > 1 || at == 15 && x < 3
			if bad {
				fails(t, b, api.ErrText)
				continue
			}
			h, data, e := sector.Open(b)
			if e != api.OK {
				t.Errorf("Open with %d at %d: %d", x, at, e)
				continue
			}
			if again := sealed(t, h, data); !bytes.Equal(again, b) {
				t.Errorf("Open with %d at %d: %+v, %s, which makes %s", x, at, h, tell(data), tell(again))
			}
		}
	}
}
