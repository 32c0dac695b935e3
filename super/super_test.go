package super_test

import (
	"bytes"
	"math"
	"slices"
	"testing"

	"gazetteer/api"
	"gazetteer/flash"
	"gazetteer/super"
)

// greatest is the greatest number of 7 bytes.
const greatest = 1<<56 - 1

// first and second are blocks, each number another one.
var (
	first  = super.Block{Gen: 0, Epoch: 11, First: 12, From: 13, Count: 14}
	second = super.Block{Gen: 1, Epoch: 21, First: 22, From: 23, Count: 24}
)

// device is a new one.
func device(t *testing.T, sectors int) *flash.Device {
	t.Helper()
	d, e := flash.New(sectors)
	if e != api.OK {
		t.Fatalf("New(%d): %d", sectors, e)
	}
	return d
}

// put writes bytes to a sector past super, and makes them sure.
func put(t *testing.T, d *flash.Device, at int, b []byte) {
	t.Helper()
	ok(t, "Write", d.Write(at, b))
	ok(t, "Sync", d.Sync())
}

// tear makes a sector one that cannot be read.
func tear(t *testing.T, d *flash.Device, at int) {
	t.Helper()
	ok(t, "Sync", d.Sync())
	ok(t, "Write", d.Write(at, nil))
	ok(t, "Crash", d.Crash(0, 1))
}

// seven are the 7 bytes of a number.
func seven(n int) []byte {
	return []byte{byte(n >> 48), byte(n >> 40), byte(n >> 32), byte(n >> 24), byte(n >> 16), byte(n >> 8), byte(n)}
}

// dataOf are a block's 35 bytes.
func dataOf(b super.Block) []byte {
	return slices.Concat(seven(b.Gen), seven(b.Epoch), seven(b.First), seven(b.From), seven(b.Count))
}

// full answers b and noughts behind it, 512 bytes in all.
func full(b []byte) []byte {
	return append(slices.Clone(b), make([]byte, 512-len(b))...)
}

// with answers a sector with the head of a block, and this data.
func with(data []byte) []byte {
	head := []byte{1, 0, 0, 0, 0, 0, 0, 0, 0, 0, 0, 0, 0, 1, byte(len(data) >> 8), byte(len(data))}
	return full(append(head, data...))
}

// bytesOf are all bytes of a block's sector; written out, so that the tests do not
// write as the package does.
func bytesOf(b super.Block) []byte {
	return with(dataOf(b))
}

func ok(t *testing.T, what string, e api.Errno) {
	t.Helper()
	errs(t, what, e, api.OK)
}

func errs(t *testing.T, what string, e, want api.Errno) {
	t.Helper()
	if e != want {
		t.Errorf("%s: %d, not %d", what, e, want)
	}
}

// loads holds the block that counts against the one told.
func loads(t *testing.T, d *flash.Device, want super.Block) {
	t.Helper()
	if b, e := super.Load(d); e != api.OK || b != want {
		t.Errorf("Load: %+v, %d, not %+v", b, e, want)
	}
}

// fails holds Load's error, and that nothing is beside it.
func fails(t *testing.T, d *flash.Device, want api.Errno) {
	t.Helper()
	if b, e := super.Load(d); e != want || b != (super.Block{}) {
		t.Errorf("Load: %+v, %d, not %d", b, e, want)
	}
}

// saves holds that a block is saved, that it counts, and that it is sure.
func saves(t *testing.T, d *flash.Device, b super.Block) {
	t.Helper()
	if e := super.Save(d, b); e != api.OK {
		t.Errorf("Save(%+v): %d", b, e)
	}
	loads(t, d, b)
	if u := d.Unsure(); len(u) != 0 {
		t.Errorf("Save(%+v): %d writes are unsure", b, len(u))
	}
}

// refuses holds Save's error, and that the device is as it was.
func refuses(t *testing.T, d *flash.Device, b super.Block, want api.Errno) {
	t.Helper()
	was := d.Copy()
	if e := super.Save(d, b); e != want {
		t.Errorf("Save(%+v): %d, not %d", b, e, want)
	}
	alike(t, d, was)
}

// alike holds a device against another one: what is read, what is unsure, and what
// is sure.
func alike(t *testing.T, d, was *flash.Device) {
	t.Helper()
	if d.Len() != was.Len() || d.Down() != was.Down() {
		t.Errorf("Len %d, Down %t, not %d, %t", d.Len(), d.Down(), was.Len(), was.Down())
	}
	one, two := d.Unsure(), was.Unsure()
	same := func(a, b api.Write) bool { return a.At == b.At && bytes.Equal(a.Data, b.Data) }
	if !slices.EqualFunc(one, two, same) {
		t.Errorf("Unsure: %d writes, not %d, or others", len(one), len(two))
	}
	readAlike(t, d, was)
	d, was = d.Copy(), was.Copy()
	d.Crash(0, 0)
	was.Crash(0, 0)
	readAlike(t, d, was)
}

func readAlike(t *testing.T, d, was *flash.Device) {
	t.Helper()
	for at := range d.Len() {
		a, ae := d.Read(at)
		b, be := was.Read(at)
		if ae != be || !bytes.Equal(a, b) {
			t.Errorf("sector %d: %x, %d, not %x, %d", at, a, ae, b, be)
		}
	}
}

func TestBlocksAsBytes(t *testing.T) {
	d := device(t, 3)
	saves(t, d, first)
	want := []byte{
		1, 0, 0, 0, 0, 0, 0, 0, 0, 0, 0, 0, 0, 1, 0, 35,
		0, 0, 0, 0, 0, 0, 0,
		0, 0, 0, 0, 0, 0, 11,
		0, 0, 0, 0, 0, 0, 12,
		0, 0, 0, 0, 0, 0, 13,
		0, 0, 0, 0, 0, 0, 14,
	}
	if b, e := d.Read(0); e != api.OK || !bytes.Equal(b, full(want)) {
		t.Errorf("sector 0: %v, %d", b, e)
	}
	if b, e := d.Read(1); e != api.OK || !bytes.Equal(b, full(nil)) {
		t.Errorf("sector 1: %v, %d", b, e)
	}
	saves(t, d, super.Block{Gen: 1, Epoch: 0x21222324252627, First: 0x31323334353637, From: 0x80000000000000, Count: greatest})
	next := []byte{
		1, 0, 0, 0, 0, 0, 0, 0, 0, 0, 0, 0, 0, 1, 0, 35,
		0, 0, 0, 0, 0, 0, 1,
		0x21, 0x22, 0x23, 0x24, 0x25, 0x26, 0x27,
		0x31, 0x32, 0x33, 0x34, 0x35, 0x36, 0x37,
		0x80, 0, 0, 0, 0, 0, 0,
		0xff, 0xff, 0xff, 0xff, 0xff, 0xff, 0xff,
	}
	if b, e := d.Read(1); e != api.OK || !bytes.Equal(b, full(next)) {
		t.Errorf("sector 1: %v, %d", b, e)
	}
	if b, e := d.Read(0); e != api.OK || !bytes.Equal(b, full(want)) {
		t.Errorf("sector 0 is no more what it was: %v, %d", b, e)
	}
}

// Blocks lie in sectors 0 and 1 in turn; no other sector is written to.
func TestPlaces(t *testing.T) {
	for _, sectors := range []int{2, 3, 4, 5, 4096} {
		d := device(t, sectors)
		want := map[int][]byte{0: nil, 1: nil}
		for at := 2; at < min(sectors, 10); at++ {
			want[at] = []byte{byte(at)}
			put(t, d, at, want[at])
		}
		for gen := range 300 {
			b := super.Block{Gen: gen, Epoch: gen * 3, First: gen * 5, From: gen * 7, Count: gen * 9}
			saves(t, d, b)
			want[gen%2] = bytesOf(b)
		}
		for at := range sectors {
			if b, e := d.Read(at); e != api.OK || !bytes.Equal(b, full(want[at])) {
				t.Errorf("sector %d of %d: %x, %d, not %x", at, sectors, b, e, want[at])
			}
		}
	}
}

func TestNumbersOfBlocks(t *testing.T) {
	some := []int{0, 1, 2, 255, 256, 257, 65535, 65536, 1 << 31, 1<<32 - 1, 1 << 32, 1 << 48, 1<<55 - 1, 1 << 55, greatest - 1, greatest}
	for _, n := range some {
		for _, b := range []super.Block{
			{Epoch: n}, {First: n}, {From: n}, {Count: n}, {Epoch: n, First: n, From: n, Count: n},
			{Epoch: n, First: greatest - n, From: 7, Count: 8}, {Epoch: 5, First: 6, From: n, Count: greatest - n},
		} {
			d := device(t, 2)
			saves(t, d, b)
			if s, _ := d.Read(0); !bytes.Equal(s, bytesOf(b)) {
				t.Errorf("Save(%+v): %x", b, s)
			}
		}
	}
}

func TestNumbersThatDoNotFit(t *testing.T) {
	bad := []int{
		-1, -2, -255, -256, -greatest, -greatest - 1, math.MinInt + 1, math.MinInt,
		greatest + 1, greatest + 2, 1 << 57, 1 << 62, math.MaxInt - 1, math.MaxInt,
	}
	for _, n := range bad {
		for _, b := range []super.Block{{Gen: n}, {Epoch: n}, {First: n}, {From: n}, {Count: n}, {Gen: n, Epoch: n, First: n, From: n, Count: n}} {
			refuses(t, device(t, 2), b, api.ErrRange)
			d := device(t, 2)
			saves(t, d, first)
			if b.Gen == 0 {
				b.Gen = 1
			}
			refuses(t, d, b, api.ErrRange)
			loads(t, d, first)
			saves(t, d, second)
			if b.Gen == 1 {
				b.Gen = 2
			}
			refuses(t, d, b, api.ErrRange)
			loads(t, d, second)
		}
	}
}

// The next Gen is one more, or 0 if there is no block.
func TestNextGen(t *testing.T) {
	d := device(t, 2)
	for gen := range 12 {
		for n := -3; n < 20; n++ {
			if n != gen {
				refuses(t, d, super.Block{Gen: n, Epoch: 5, First: 6, From: 7, Count: 8}, api.ErrRange)
			}
		}
		refuses(t, d, super.Block{Gen: gen + 256}, api.ErrRange)
		refuses(t, d, super.Block{Gen: gen + 1<<32}, api.ErrRange)
		refuses(t, d, super.Block{Gen: gen - 1<<32}, api.ErrRange)
		refuses(t, d, super.Block{Gen: gen + 1<<56}, api.ErrRange)
		saves(t, d, super.Block{Gen: gen, Epoch: gen})
	}
}

// The greatest Gen is the last one.
func TestLastGen(t *testing.T) {
	d := device(t, 2)
	put(t, d, 0, bytesOf(super.Block{Gen: greatest - 1, Count: 3}))
	loads(t, d, super.Block{Gen: greatest - 1, Count: 3})
	for _, gen := range []int{0, greatest - 2, greatest - 1, greatest + 1} {
		refuses(t, d, super.Block{Gen: gen}, api.ErrRange)
	}
	saves(t, d, super.Block{Gen: greatest, Count: 4})
	for _, gen := range []int{-1, 0, 1, greatest - 1, greatest, greatest + 1, greatest + 2, math.MaxInt, math.MinInt} {
		refuses(t, d, super.Block{Gen: gen}, api.ErrRange)
	}
	loads(t, d, super.Block{Gen: greatest, Count: 4})
}

func TestDevicesThatAreTooSmall(t *testing.T) {
	one, down, torn := device(t, 1), device(t, 1), device(t, 1)
	ok(t, "Limit", down.Limit(1))
	errs(t, "Sync", down.Sync(), api.ErrDown)
	tear(t, torn, 0)
	held := device(t, 1)
	put(t, held, 0, bytesOf(first))
	for _, d := range []*flash.Device{nil, {}, one, down, torn, held} {
		fails(t, d, api.ErrArg)
		for _, b := range []super.Block{{}, first, second, {Gen: -1}, {Count: math.MaxInt}} {
			errs(t, "Save", super.Save(d, b), api.ErrArg)
		}
		fails(t, d, api.ErrArg)
	}
	for at, want := range map[*flash.Device][]byte{one: nil, held: bytesOf(first)} {
		if b, e := at.Read(0); e != api.OK || !bytes.Equal(b, full(want)) || len(at.Unsure()) != 0 {
			t.Errorf("Save of one sector: %x, %d", b, e)
		}
	}
}

func TestWithoutPower(t *testing.T) {
	for _, saved := range []int{0, 1, 2} {
		d := device(t, 2)
		for _, b := range []super.Block{first, second}[:saved] {
			saves(t, d, b)
		}
		ok(t, "Write", d.Write(1-saved%2, []byte{9}))
		ok(t, "Limit", d.Limit(1))
		errs(t, "Sync", d.Sync(), api.ErrDown)
		for range 3 {
			fails(t, d, api.ErrDown)
			for _, b := range []super.Block{first, second, {Gen: 2}, {Gen: 5}, {Gen: -1}, {Count: -1}, {Count: greatest + 1}} {
				refuses(t, d, b, api.ErrDown)
			}
		}
		ok(t, "Crash", d.Crash(0, 0))
		switch saved {
		case 0:
			fails(t, d, api.ErrNone)
		case 1:
			loads(t, d, first)
		case 2:
			loads(t, d, second)
		}
	}
}

func TestNoBlock(t *testing.T) {
	for _, sectors := range []int{2, 3, 4096} {
		fails(t, device(t, sectors), api.ErrNone)
	}
	d := device(t, 2)
	for _, at := range []int{0, 1} {
		tear(t, d, at)
		fails(t, d, api.ErrNone)
	}
	refuses(t, d, second, api.ErrRange)
	saves(t, d, first)
	saves(t, d, second)
}

// Blocks lie in sectors 0 and 1, nowhere else.
func TestBlocksElsewhere(t *testing.T) {
	d := device(t, 10)
	for at := 2; at < 10; at++ {
		put(t, d, at, bytesOf(super.Block{Gen: at, Epoch: 3}))
	}
	fails(t, d, api.ErrNone)
	refuses(t, d, super.Block{Gen: 10}, api.ErrRange)
	saves(t, d, first)
	saves(t, d, second)
}

// Two devices share nothing.
func TestTwoDevices(t *testing.T) {
	a, b := device(t, 2), device(t, 2)
	saves(t, a, first)
	fails(t, b, api.ErrNone)
	saves(t, a, second)
	saves(t, b, super.Block{Count: 5})
	loads(t, a, second)
	c := a.Copy()
	saves(t, c, super.Block{Gen: 2})
	loads(t, a, second)
	loads(t, b, super.Block{Count: 5})
	saves(t, a, super.Block{Gen: 2, Count: 8})
	loads(t, c, super.Block{Gen: 2})
}

// Load changes nothing, and Limit does not count it.
func TestLoadChangesNothing(t *testing.T) {
	d := device(t, 3)
	saves(t, d, first)
	ok(t, "Write", d.Write(2, []byte{7}))
	ok(t, "Write", d.Write(1, bytesOf(second)))
	ok(t, "Limit", d.Limit(2))
	was := d.Copy()
	for range 10 {
		loads(t, d, second)
		refuses(t, d, second, api.ErrRange)
		refuses(t, d, super.Block{Gen: 2, Count: -1}, api.ErrRange)
	}
	alike(t, d, was)
	ok(t, "Write", d.Write(2, nil))
	errs(t, "Write", d.Write(2, nil), api.ErrDown)
	fails(t, d, api.ErrDown)
}
