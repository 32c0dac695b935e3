package flash_test

import (
	"bytes"
	"math"
	"slices"
	"testing"

	"gazetteer/api"
	"gazetteer/flash"
)

// none are numbers of no sector of a device of 4; some come round to one of 0 to
// 3 if they are cut to fewer bits.
var none = []int{
	-1, -2, -4, 4, 5, 255, 256, 257, 512, 4096, 65536, 1 << 31, 1 << 32, 1<<32 + 1, 1 << 62,
	math.MaxInt - 1, math.MaxInt, math.MinInt, math.MinInt + 1,
}

// device is a new one.
func device(t *testing.T, sectors int) *flash.Device {
	t.Helper()
	d, e := flash.New(sectors)
	if e != api.OK || d == nil {
		t.Fatalf("New(%d): %v, %d", sectors, d, e)
	}
	return d
}

// full answers b and noughts behind it, 512 bytes in all.
func full(b ...byte) []byte {
	return append(slices.Clone(b), make([]byte, 512-len(b))...)
}

// some are as many bytes, none of them 0.
func some(first byte, size int) []byte {
	b := make([]byte, size)
	for i := range b {
		b[i] = max(first+byte(i), 1)
	}
	return b
}

func ok(t *testing.T, what string, e api.Errno) {
	t.Helper()
	errs(t, what, e, api.OK)
}

func errs(t *testing.T, what string, e, want api.Errno) {
	t.Helper()
	if e != want {
		t.Errorf("%s: %d, not %d", what, e, want)
	}
}

// reads holds a sector against what it should have.
func reads(t *testing.T, d *flash.Device, at int, want ...byte) {
	t.Helper()
	if b, e := d.Read(at); e != api.OK || !bytes.Equal(b, full(want...)) {
		t.Errorf("Read(%d): %v, %d, not %v", at, b, e, want)
	}
}

// fails holds Read's error, and that nothing is beside it.
func fails(t *testing.T, d *flash.Device, at int, want api.Errno) {
	t.Helper()
	if b, e := d.Read(at); e != want || b != nil {
		t.Errorf("Read(%d): %v, %d, not %d", at, b, e, want)
	}
}

// pending holds the unsure writes, their sectors and first bytes, against those
// told.
func pending(t *testing.T, d *flash.Device, want ...[2]int) {
	t.Helper()
	got := d.Unsure()
	if len(got) != len(want) {
		t.Errorf("Unsure: %d writes, not %d: %v", len(got), len(want), got)
		return
	}
	for i, w := range want {
		if got[i].At != w[0] || !bytes.Equal(got[i].Data, full(byte(w[1]))) {
			t.Errorf("Unsure: %d: %v, not %v", i, got[i], w)
		}
	}
}

func TestNewBounds(t *testing.T) {
	for _, n := range []int{math.MinInt, math.MinInt + 1, -4096, -1, 0, 4097, 4098, 65536, 1 << 32, 1<<32 + 1, 1 << 62, math.MaxInt} {
		if d, e := flash.New(n); d != nil || e != api.ErrArg {
			t.Errorf("New(%d): %v, %d", n, d, e)
		}
	}
	for _, n := range []int{1, 2, 3, 64, 4095, 4096} {
		d := device(t, n)
		if d.Len() != n {
			t.Errorf("Len: %d, not %d", d.Len(), n)
		}
		for at := range n {
			reads(t, d, at)
		}
		fails(t, d, n, api.ErrArg)
		fails(t, d, -1, api.ErrArg)
		if d.Down() {
			t.Error("a new device is down")
		}
		pending(t, d)
	}
}

func TestNewDevicesShareNothing(t *testing.T) {
	a, b := device(t, 2), device(t, 2)
	ok(t, "Write", a.Write(0, []byte{1}))
	ok(t, "Sync", a.Sync())
	ok(t, "Limit", a.Limit(1))
	errs(t, "Write", a.Write(0, []byte{2}), api.ErrDown)
	reads(t, b, 0)
	pending(t, b)
	if b.Down() {
		t.Error("another device went down")
	}
}

func TestReadAndWriteOfNoSector(t *testing.T) {
	d := device(t, 4)
	for at := range 4 {
		ok(t, "Write", d.Write(at, []byte{byte(at + 1)}))
	}
	ok(t, "Sync", d.Sync())
	for _, at := range none {
		fails(t, d, at, api.ErrArg)
		errs(t, "Write", d.Write(at, []byte{9}), api.ErrArg)
		errs(t, "Write", d.Write(at, nil), api.ErrArg)
		errs(t, "Write", d.Write(at, make([]byte, 513)), api.ErrArg)
	}
	pending(t, d)
	for at := range 4 {
		reads(t, d, at, byte(at+1))
	}
}

func TestWriteOfBytes(t *testing.T) {
	for _, size := range []int{0, 1, 2, 255, 256, 257, 510, 511, 512} {
		d := device(t, 3)
		b := some(3, size)
		ok(t, "Write", d.Write(1, b))
		reads(t, d, 0)
		reads(t, d, 1, b...)
		reads(t, d, 2)
		if u := d.Unsure(); len(u) != 1 || u[0].At != 1 || !bytes.Equal(u[0].Data, full(b...)) {
			t.Errorf("Unsure of %d bytes: %v", size, u)
		}
		ok(t, "Sync", d.Sync())
		reads(t, d, 1, b...)
	}
	for _, size := range []int{513, 514, 1024, 65536, 65536 + 5} {
		d := device(t, 3)
		ok(t, "Write", d.Write(1, []byte{7}))
		for at := range 3 {
			errs(t, "Write of too many", d.Write(at, some(3, size)), api.ErrArg)
		}
		pending(t, d, [2]int{1, 7})
		reads(t, d, 0)
		reads(t, d, 1, 7)
	}
}

func TestWriteOverMoreBytes(t *testing.T) {
	d := device(t, 1)
	ok(t, "Write", d.Write(0, some(1, 512)))
	for _, size := range []int{511, 300, 1, 0} {
		ok(t, "Write", d.Write(0, some(9, size)))
		reads(t, d, 0, some(9, size)...)
		ok(t, "Sync", d.Sync())
		reads(t, d, 0, some(9, size)...)
	}
	ok(t, "Write", d.Write(0, some(5, 512)))
	ok(t, "Write", d.Write(0, nil))
	reads(t, d, 0)
	ok(t, "Write", d.Write(0, some(5, 512)))
	ok(t, "Write", d.Write(0, []byte{}))
	reads(t, d, 0)
}

func TestReadIsOfTheLastWrite(t *testing.T) {
	d := device(t, 3)
	ok(t, "Write", d.Write(1, []byte{1}))
	ok(t, "Write", d.Write(1, []byte{2}))
	ok(t, "Write", d.Write(2, []byte{3}))
	ok(t, "Write", d.Write(1, []byte{4}))
	reads(t, d, 0)
	reads(t, d, 1, 4)
	reads(t, d, 2, 3)
	ok(t, "Sync", d.Sync())
	reads(t, d, 0)
	reads(t, d, 1, 4)
	reads(t, d, 2, 3)
	ok(t, "Write", d.Write(1, []byte{5}))
	reads(t, d, 1, 5)
}

func TestSyncMakesSure(t *testing.T) {
	d := device(t, 3)
	ok(t, "Write", d.Write(0, []byte{1}))
	ok(t, "Write", d.Write(0, []byte{2}))
	ok(t, "Write", d.Write(2, []byte{3}))
	pending(t, d, [2]int{0, 1}, [2]int{0, 2}, [2]int{2, 3})
	ok(t, "Sync", d.Sync())
	pending(t, d)
	for _, bits := range [][2]uint64{{0, 0}, {0, math.MaxUint64}, {math.MaxUint64, 0}} {
		ok(t, "Crash", d.Crash(bits[0], bits[1]))
		reads(t, d, 0, 2)
		reads(t, d, 1)
		reads(t, d, 2, 3)
	}
	ok(t, "Sync", d.Sync())
	ok(t, "Sync", d.Sync())
	reads(t, d, 0, 2)
}

// More writes than a word has bits are all sure behind a Sync.
func TestSyncOfManyWrites(t *testing.T) {
	d := device(t, 200)
	for at := range 200 {
		ok(t, "Write", d.Write(at, []byte{byte(at)}))
	}
	ok(t, "Sync", d.Sync())
	ok(t, "Crash", d.Crash(0, math.MaxUint64))
	for at := range 200 {
		reads(t, d, at, byte(at))
	}
}

func TestWithoutPower(t *testing.T) {
	d := device(t, 4)
	ok(t, "Write", d.Write(1, []byte{1}))
	ok(t, "Sync", d.Sync())
	ok(t, "Write", d.Write(2, []byte{2}))
	ok(t, "Limit", d.Limit(1))
	errs(t, "Write", d.Write(3, []byte{3}), api.ErrDown)
	for range 3 {
		for _, at := range append([]int{0, 1, 2, 3}, none...) {
			fails(t, d, at, api.ErrDown)
			errs(t, "Write", d.Write(at, []byte{9}), api.ErrDown)
			errs(t, "Write of too many", d.Write(at, make([]byte, 513)), api.ErrDown)
		}
		errs(t, "Sync", d.Sync(), api.ErrDown)
		if !d.Down() || d.Len() != 4 {
			t.Errorf("Down %t, Len %d", d.Down(), d.Len())
		}
		pending(t, d, [2]int{2, 2})
	}
	ok(t, "Crash", d.Crash(1, 0))
	if d.Down() {
		t.Error("it is down behind a crash")
	}
	reads(t, d, 1, 1)
	reads(t, d, 2, 2)
	reads(t, d, 3)
}

func TestLimitCountsWritesAndSyncs(t *testing.T) {
	for n := 1; n <= 6; n++ {
		for first := range 2 {
			d := device(t, 8)
			ok(t, "Limit", d.Limit(n))
			for i := 1; i < n; i++ {
				if (i+first)%2 == 0 {
					ok(t, "Sync", d.Sync())
				} else {
					ok(t, "Write", d.Write(i, []byte{byte(i)}))
				}
				if d.Down() {
					t.Fatalf("Limit(%d): down behind %d", n, i)
				}
			}
			ahead := d.Unsure()
			if (n+first)%2 == 0 {
				errs(t, "Sync", d.Sync(), api.ErrDown)
			} else {
				errs(t, "Write", d.Write(n, []byte{byte(n)}), api.ErrDown)
			}
			if !d.Down() {
				t.Errorf("Limit(%d): the power is not gone", n)
			}
			if got := d.Unsure(); len(got) != len(ahead) {
				t.Errorf("Limit(%d): %d are unsure, not %d", n, len(got), len(ahead))
			}
			ok(t, "Crash", d.Crash(math.MaxUint64, 0))
			reads(t, d, n)
			for i := 1; i < n; i++ {
				if (i+first)%2 != 0 {
					reads(t, d, i, byte(i))
				}
			}
		}
	}
}

// A Write that the power does not last for is not done: no crash makes it be.
func TestTheWriteAtTheLimitIsNotDone(t *testing.T) {
	for _, bits := range [][2]uint64{{0, 0}, {math.MaxUint64, 0}, {0, math.MaxUint64}, {2, 2}} {
		d := device(t, 2)
		ok(t, "Write", d.Write(0, []byte{1}))
		ok(t, "Sync", d.Sync())
		ok(t, "Limit", d.Limit(1))
		errs(t, "Write", d.Write(0, []byte{2}), api.ErrDown)
		pending(t, d)
		ok(t, "Crash", d.Crash(bits[0], bits[1]))
		reads(t, d, 0, 1)
	}
}

func TestTheSyncAtTheLimitIsNotDone(t *testing.T) {
	d := device(t, 2)
	ok(t, "Write", d.Write(0, []byte{1}))
	ok(t, "Write", d.Write(1, []byte{2}))
	ok(t, "Limit", d.Limit(1))
	errs(t, "Sync", d.Sync(), api.ErrDown)
	pending(t, d, [2]int{0, 1}, [2]int{1, 2})
	ok(t, "Crash", d.Crash(0, 2))
	reads(t, d, 0)
	fails(t, d, 1, api.ErrTorn)
}

func TestLimitCountsNothingElse(t *testing.T) {
	d := device(t, 4)
	ok(t, "Limit", d.Limit(2))
	for _, at := range none {
		d.Read(at)
		errs(t, "Write", d.Write(at, nil), api.ErrArg)
	}
	for range 5 {
		reads(t, d, 0)
		errs(t, "Write", d.Write(0, make([]byte, 513)), api.ErrArg)
		errs(t, "Limit", d.Limit(-1), api.ErrArg)
		errs(t, "Write of a copy", d.Copy().Write(0, nil), api.OK)
		d.Unsure()
		d.Len()
		if d.Down() {
			t.Error("down")
		}
	}
	ok(t, "Write", d.Write(0, []byte{1}))
	errs(t, "Write of no sector", d.Write(-1, nil), api.ErrArg)
	errs(t, "Write of too many", d.Write(1, make([]byte, 513)), api.ErrArg)
	if d.Down() {
		t.Error("a Write that is refused took the power")
	}
	errs(t, "Write", d.Write(1, []byte{2}), api.ErrDown)
	if !d.Down() {
		t.Error("the power is not gone")
	}
}

// Nothing to make sure: it is a Sync all the same.
func TestLimitCountsAnIdleSync(t *testing.T) {
	d := device(t, 1)
	ok(t, "Limit", d.Limit(3))
	ok(t, "Sync", d.Sync())
	ok(t, "Sync", d.Sync())
	errs(t, "Sync", d.Sync(), api.ErrDown)
}

func TestLimitAnew(t *testing.T) {
	d := device(t, 1)
	ok(t, "Limit", d.Limit(2))
	ok(t, "Write", d.Write(0, []byte{1}))
	ok(t, "Limit", d.Limit(3))
	ok(t, "Write", d.Write(0, []byte{2}))
	ok(t, "Sync", d.Sync())
	ok(t, "Limit", d.Limit(0))
	for i := range 100 {
		ok(t, "Write", d.Write(0, []byte{byte(i)}))
		ok(t, "Sync", d.Sync())
	}
	ok(t, "Limit", d.Limit(1))
	ok(t, "Limit", d.Limit(math.MaxInt))
	for i := range 100 {
		ok(t, "Write", d.Write(0, []byte{byte(i)}))
		ok(t, "Sync", d.Sync())
	}
	ok(t, "Limit", d.Limit(1))
	errs(t, "Write", d.Write(0, nil), api.ErrDown)
}

func TestLimitBelowNought(t *testing.T) {
	for _, n := range []int{-1, -2, math.MinInt, math.MinInt + 1, math.MinInt + 2} {
		d := device(t, 1)
		errs(t, "Limit", d.Limit(n), api.ErrArg)
		for range 5 {
			ok(t, "Write", d.Write(0, []byte{1}))
		}
		// What was told ahead of it holds on.
		ok(t, "Limit", d.Limit(2))
		errs(t, "Limit", d.Limit(n), api.ErrArg)
		ok(t, "Sync", d.Sync())
		errs(t, "Limit", d.Limit(n), api.ErrArg)
		errs(t, "Sync", d.Sync(), api.ErrDown)
		errs(t, "Limit", d.Limit(n), api.ErrArg)
	}
}

// Crash alone brings the power back, and then there is no limit.
func TestLimitWithoutPower(t *testing.T) {
	for _, n := range []int{0, 1, 5, math.MaxInt} {
		d := device(t, 1)
		ok(t, "Limit", d.Limit(1))
		errs(t, "Sync", d.Sync(), api.ErrDown)
		ok(t, "Limit", d.Limit(n))
		if !d.Down() {
			t.Errorf("Limit(%d) brought the power back", n)
		}
		errs(t, "Write", d.Write(0, nil), api.ErrDown)
		errs(t, "Sync", d.Sync(), api.ErrDown)
		fails(t, d, 0, api.ErrDown)
		ok(t, "Crash", d.Crash(0, 0))
		for range 10 {
			ok(t, "Write", d.Write(0, nil))
			ok(t, "Sync", d.Sync())
		}
	}
}

func TestCrashTakesTheLimitAway(t *testing.T) {
	d := device(t, 1)
	for _, n := range []int{1, 2, 3} {
		ok(t, "Limit", d.Limit(n))
		ok(t, "Crash", d.Crash(0, 0))
		for range 10 {
			ok(t, "Write", d.Write(0, nil))
			ok(t, "Sync", d.Sync())
		}
		if d.Down() {
			t.Error("down")
		}
	}
}

func TestTheChaptersExample(t *testing.T) {
	for _, torn := range []uint64{0, 1} {
		d := device(t, 4)
		ok(t, "Write", d.Write(1, []byte("x")))
		ok(t, "Sync", d.Sync())
		ok(t, "Write", d.Write(1, []byte("y")))
		ok(t, "Crash", d.Crash(0, torn))
		if torn == 1 {
			fails(t, d, 1, api.ErrTorn)
		} else {
			reads(t, d, 1, 'x')
		}
	}
}

// Three writes, two of them to one sector: each way of bits is told here.
func TestCrashOfEachKind(t *testing.T) {
	const x = 256 // torn
	cases := []struct {
		mask, torn uint64
		one, two   int // the first bytes of sectors 1 and 2
	}{
		{0, 0, 1, 2},
		{1, 0, 3, 2}, {2, 0, 1, 4}, {4, 0, 5, 2},
		{3, 0, 3, 4}, {5, 0, 5, 2}, {6, 0, 5, 4}, {7, 0, 5, 4},
		{0, 1, x, 2}, {0, 2, 1, x}, {0, 4, x, 2},
		{1, 1, x, 2}, {2, 2, 1, x}, {4, 4, x, 2},
		{1, 4, x, 2}, {5, 4, x, 2}, {4, 1, 5, 2}, {5, 1, 5, 2}, {5, 5, x, 2},
		{7, 1, 5, 4}, {7, 2, 5, x}, {7, 4, x, 4}, {7, 7, x, x},
		{1, 2, 3, x}, {2, 1, x, 4}, {2, 5, x, 4}, {4, 3, 5, x}, {0, 7, x, x},
		{8, 8, 1, 2}, {^uint64(7), ^uint64(7), 1, 2},
		{^uint64(0), 0, 5, 4}, {0, ^uint64(0), x, x}, {^uint64(0), ^uint64(0), x, x},
	}
	for _, c := range cases {
		d := device(t, 4)
		ok(t, "Write", d.Write(1, []byte{1}))
		ok(t, "Write", d.Write(2, []byte{2}))
		ok(t, "Sync", d.Sync())
		ok(t, "Write", d.Write(1, []byte{3}))
		ok(t, "Write", d.Write(2, []byte{4}))
		ok(t, "Write", d.Write(1, []byte{5}))
		ok(t, "Crash", d.Crash(c.mask, c.torn))
		for at, want := range []int{1: c.one, c.two} {
			if at == 0 {
				continue
			}
			if want == x {
				fails(t, d, at, api.ErrTorn)
			} else {
				reads(t, d, at, byte(want))
			}
		}
		reads(t, d, 0)
		reads(t, d, 3)
		pending(t, d)
		if t.Failed() {
			t.Fatalf("Crash(%d, %d)", c.mask, c.torn)
		}
	}
}

// Behind a crash all is sure: what was forgotten never comes back, and what was
// done or torn is not undone.
func TestCrashMakesSure(t *testing.T) {
	d := device(t, 4)
	ok(t, "Write", d.Write(1, []byte{1}))
	ok(t, "Write", d.Write(2, []byte{2}))
	ok(t, "Write", d.Write(3, []byte{3}))
	ok(t, "Crash", d.Crash(2, 4))
	for _, bits := range [][2]uint64{{0, 0}, {math.MaxUint64, 0}, {0, math.MaxUint64}, {5, 2}} {
		pending(t, d)
		reads(t, d, 1)
		reads(t, d, 2, 2)
		fails(t, d, 3, api.ErrTorn)
		ok(t, "Crash", d.Crash(bits[0], bits[1]))
		ok(t, "Sync", d.Sync())
	}
	// The first write behind it is number 0 again.
	ok(t, "Write", d.Write(1, []byte{4}))
	ok(t, "Write", d.Write(2, []byte{5}))
	ok(t, "Crash", d.Crash(1, 0))
	reads(t, d, 1, 4)
	reads(t, d, 2, 2)
}

// The first write behind a Sync is number 0, too.
func TestCrashCountsFromTheSync(t *testing.T) {
	d := device(t, 4)
	ok(t, "Write", d.Write(0, []byte{1}))
	ok(t, "Write", d.Write(1, []byte{2}))
	ok(t, "Sync", d.Sync())
	ok(t, "Write", d.Write(2, []byte{3}))
	errs(t, "Write", d.Write(4, []byte{9}), api.ErrArg)
	ok(t, "Write", d.Write(3, []byte{4}))
	ok(t, "Crash", d.Crash(1, 2))
	reads(t, d, 0, 1)
	reads(t, d, 1, 2)
	reads(t, d, 2, 3)
	fails(t, d, 3, api.ErrTorn)
}

// Each bit is that of one write in 64.
func TestCrashOfManyWrites(t *testing.T) {
	const writes = 200
	for bit := range 64 {
		for _, tears := range []bool{false, true} {
			d := device(t, writes)
			for at := range writes {
				ok(t, "Write", d.Write(at, []byte{byte(at + 1)}))
			}
			if tears {
				ok(t, "Crash", d.Crash(0, 1<<bit))
			} else {
				ok(t, "Crash", d.Crash(1<<bit, 0))
			}
			for at := range writes {
				switch {
				case at%64 != bit:
					reads(t, d, at)
				case tears:
					fails(t, d, at, api.ErrTorn)
				default:
					reads(t, d, at, byte(at+1))
				}
			}
		}
	}
}

// torn is a device whose sectors 0 and 1 are torn; they had bytes once.
func torn(t *testing.T) *flash.Device {
	d := device(t, 3)
	ok(t, "Write", d.Write(0, []byte{1}))
	ok(t, "Sync", d.Sync())
	ok(t, "Write", d.Write(0, []byte{2}))
	ok(t, "Write", d.Write(1, []byte{3}))
	ok(t, "Crash", d.Crash(3, 3))
	return d
}

func TestTornTillItIsWritten(t *testing.T) {
	d := torn(t)
	for range 3 {
		fails(t, d, 0, api.ErrTorn)
		fails(t, d, 1, api.ErrTorn)
		reads(t, d, 2)
		ok(t, "Write", d.Write(2, nil))
		ok(t, "Sync", d.Sync())
	}
	errs(t, "Write of too many", d.Write(0, make([]byte, 513)), api.ErrArg)
	fails(t, d, 0, api.ErrTorn)
	pending(t, d)
	ok(t, "Write", d.Write(0, []byte{4}))
	reads(t, d, 0, 4)
	fails(t, d, 1, api.ErrTorn)
	// It was not sure: so it is torn again, and stays so.
	ok(t, "Crash", d.Crash(0, 0))
	fails(t, d, 0, api.ErrTorn)
	ok(t, "Crash", d.Crash(math.MaxUint64, 0))
	fails(t, d, 0, api.ErrTorn)
	ok(t, "Write", d.Write(0, []byte{5}))
	ok(t, "Crash", d.Crash(1, 0))
	reads(t, d, 0, 5)
	ok(t, "Crash", d.Crash(0, 0))
	reads(t, d, 0, 5)
	ok(t, "Write", d.Write(1, nil))
	reads(t, d, 1)
	ok(t, "Sync", d.Sync())
	reads(t, d, 1)
	ok(t, "Crash", d.Crash(0, math.MaxUint64))
	reads(t, d, 0, 5)
	reads(t, d, 1)
}

func TestTornIsNotReadWithoutPower(t *testing.T) {
	d := torn(t)
	fails(t, d, -1, api.ErrArg)
	fails(t, d, 3, api.ErrArg)
	ok(t, "Limit", d.Limit(1))
	errs(t, "Write", d.Write(0, []byte{9}), api.ErrDown)
	fails(t, d, 0, api.ErrDown)
	ok(t, "Crash", d.Crash(math.MaxUint64, 0))
	fails(t, d, 0, api.ErrTorn)
}

func TestUnsure(t *testing.T) {
	d := device(t, 4)
	ok(t, "Write", d.Write(3, []byte{1}))
	ok(t, "Write", d.Write(1, []byte{2}))
	ok(t, "Write", d.Write(3, []byte{1}))
	ok(t, "Write", d.Write(0, nil))
	errs(t, "Write", d.Write(4, []byte{3}), api.ErrArg)
	all := [][2]int{{3, 1}, {1, 2}, {3, 1}, {0, 0}}
	pending(t, d, all...)
	ok(t, "Write", d.Write(3, []byte{4}))
	all = append(all, [2]int{3, 4})
	pending(t, d, all...)
	pending(t, d, all...)
	ok(t, "Limit", d.Limit(1))
	errs(t, "Sync", d.Sync(), api.ErrDown)
	pending(t, d, all...)
	ok(t, "Crash", d.Crash(1, 2))
	pending(t, d)
	ok(t, "Write", d.Write(1, []byte{5}))
	pending(t, d, [2]int{1, 5})
	ok(t, "Sync", d.Sync())
	pending(t, d)
}

func TestNil(t *testing.T) {
	var d *flash.Device
	for _, n := range []int{math.MinInt, -1, 0, 1, 2, 4096, math.MaxInt} {
		fails(t, d, n, api.ErrArg)
		errs(t, "Write", d.Write(n, []byte{1}), api.ErrArg)
		errs(t, "Write", d.Write(n, nil), api.ErrArg)
		errs(t, "Limit", d.Limit(n), api.ErrArg)
	}
	errs(t, "Sync", d.Sync(), api.ErrArg)
	errs(t, "Crash", d.Crash(0, 0), api.ErrArg)
	errs(t, "Crash", d.Crash(math.MaxUint64, math.MaxUint64), api.ErrArg)
	if d.Len() != 0 || !d.Down() || len(d.Unsure()) != 0 || d.Copy() != nil {
		t.Errorf("%d, %t, %v, %v", d.Len(), d.Down(), d.Unsure(), d.Copy())
	}
}

func TestZeroDevice(t *testing.T) {
	for _, d := range []*flash.Device{{}, new(flash.Device).Copy()} {
		if d.Len() != 0 || d.Down() || len(d.Unsure()) != 0 {
			t.Errorf("%d, %t, %v", d.Len(), d.Down(), d.Unsure())
		}
		fails(t, d, 0, api.ErrArg)
		errs(t, "Write", d.Write(0, nil), api.ErrArg)
		ok(t, "Sync", d.Sync())
		ok(t, "Limit", d.Limit(1))
		errs(t, "Sync", d.Sync(), api.ErrDown)
		fails(t, d, 0, api.ErrDown)
		ok(t, "Crash", d.Crash(math.MaxUint64, math.MaxUint64))
		ok(t, "Sync", d.Sync())
	}
}
