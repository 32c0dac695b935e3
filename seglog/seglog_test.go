package seglog_test

import (
	"bytes"
	"math"
	"slices"
	"testing"

	"gazetteer/api"
	"gazetteer/flash"
	"gazetteer/seglog"
)

// device is a new one.
func device(t *testing.T, sectors int) *flash.Device {
	t.Helper()
	d, e := flash.New(sectors)
	if e != api.OK {
		t.Fatalf("New(%d): %d", sectors, e)
	}
	return d
}

// opened is the log of a device that Open takes.
func opened(t *testing.T, d *flash.Device) *seglog.Log {
	t.Helper()
	l, e := seglog.Open(d)
	if e != api.OK || l == nil {
		t.Fatalf("Open: %v, %d", l, e)
	}
	return l
}

// fresh is an empty log with so many places.
func fresh(t *testing.T, places int) (*flash.Device, *seglog.Log) {
	t.Helper()
	d := device(t, places+2)
	return d, opened(t, d)
}

func ok(t *testing.T, what string, e api.Errno) {
	t.Helper()
	errs(t, what, e, api.OK)
}

func errs(t *testing.T, what string, e, want api.Errno) {
	t.Helper()
	if e != want {
		t.Errorf("%s: %d, not %d", what, e, want)
	}
}

// bytesOf are so many bytes, which hang on the seed.
func bytesOf(size, seed int) []byte {
	out := make([]byte, size)
	for i := range out {
		out[i] = byte(seed*31 + i*7 + i/256*3 + 1)
	}
	return out
}

// placesOf tells how many places so many bytes take.
func placesOf(size int) int {
	n := 1
	for size > 496 {
		n++
		size -= 496
	}
	return n
}

// appends appends a record that is to have this number.
func appends(t *testing.T, l *seglog.Log, b []byte, want int) {
	t.Helper()
	if seq, e := l.Append(b); e != api.OK || seq != want {
		t.Errorf("Append of %d bytes: %d, %d, not %d", len(b), seq, e, want)
	}
}

// refuses holds Append's error.
func refuses(t *testing.T, l *seglog.Log, b []byte, want api.Errno) {
	t.Helper()
	if seq, e := l.Append(b); e != want || seq != 0 {
		t.Errorf("Append of %d bytes: %d, %d, not %d", len(b), seq, e, want)
	}
}

// unread holds Read's error.
func unread(t *testing.T, l *seglog.Log, seq int, want api.Errno) {
	t.Helper()
	if b, e := l.Read(seq); e != want || len(b) != 0 {
		t.Errorf("Read(%d): %d bytes, %d, not %d", seq, len(b), e, want)
	}
}

// holds holds all that a log of so many places tells, if its records are these.
func holds(t *testing.T, l *seglog.Log, places, first int, records ...[]byte) {
	t.Helper()
	next := first + len(records)
	if l.First() != first || l.Next() != next {
		t.Errorf("records %d to %d, not %d to %d", l.First(), l.Next(), first, next)
	}
	room := places
	for i, want := range records {
		room -= placesOf(len(want))
		if b, e := l.Read(first + i); e != api.OK || !bytes.Equal(b, want) {
			t.Errorf("Read(%d): %d bytes, %d, not the %d bytes", first+i, len(b), e, len(want))
		}
	}
	if l.Room() != room {
		t.Errorf("Room: %d, not %d", l.Room(), room)
	}
	for _, seq := range []int{first - 1, first - 100, -1, -2, math.MinInt} {
		unread(t, l, seq, api.ErrOld)
	}
	for _, seq := range []int{next, next + 1, next + 100, 1 << 56, math.MaxInt} {
		unread(t, l, seq, api.ErrNone)
	}
}

func TestEmptyLogs(t *testing.T) {
	for _, sectors := range []int{4, 5, 6, 100, 4095, 4096} {
		d, l := fresh(t, sectors-2)
		holds(t, l, sectors-2, 0)
		if l.Epoch() != 1 {
			t.Errorf("Epoch: %d", l.Epoch())
		}
		ok(t, "Sync", l.Sync())
		ok(t, "Drop", l.Drop(0))
		holds(t, l, sectors-2, 0)
		l = opened(t, d)
		holds(t, l, sectors-2, 0)
		if l.Epoch() != 2 {
			t.Errorf("Epoch: %d", l.Epoch())
		}
	}
}

// The document's example.
func TestWhatIsUnsureIsForgotten(t *testing.T) {
	d, l := fresh(t, 6)
	appends(t, l, []byte("a"), 0)
	ok(t, "Sync", l.Sync())
	appends(t, l, []byte("b"), 1)
	ok(t, "Crash", d.Crash(0, 0))
	l = opened(t, d)
	holds(t, l, 6, 0, []byte("a"))
	appends(t, l, []byte("c"), 1)
	holds(t, l, 6, 0, []byte("a"), []byte("c"))
}

// sizes are of records; some are as large as what places hold, or a byte off.
var sizes = []int{
	0, 1, 2, 255, 256, 480, 481, 494, 495, 496, 497, 498, 511, 512, 513, 991, 992, 993, 1487, 1488, 1489,
	4095, 4096, 4097, 15871, 15872, 15873, 16367, 16368, 16369, 16383, 16384,
}

func TestSizesOfRecords(t *testing.T) {
	for _, size := range sizes {
		d, l := fresh(t, 40)
		b, next := bytesOf(size, 1), bytesOf(3, 2)
		appends(t, l, b, 0)
		holds(t, l, 40, 0, b)
		appends(t, l, next, 1)
		holds(t, l, 40, 0, b, next)
		ok(t, "Sync", l.Sync())
		holds(t, l, 40, 0, b, next)
		holds(t, opened(t, d), 40, 0, b, next)
	}
}

// Records of noughts are records, too.
func TestRecordsOfNoughts(t *testing.T) {
	d, l := fresh(t, 40)
	var all [][]byte
	for i, size := range []int{0, 1, 496, 497, 512, 2000, 0, 0} {
		all = append(all, make([]byte, size))
		appends(t, l, all[i], i)
	}
	appends(t, l, nil, len(all))
	all = append(all, nil)
	holds(t, l, 40, 0, all...)
	ok(t, "Sync", l.Sync())
	holds(t, l, 40, 0, all...)
	holds(t, opened(t, d), 40, 0, all...)
}

func TestTooLarge(t *testing.T) {
	for _, places := range []int{2, 33, 34, 35, 100} {
		_, l := fresh(t, places)
		for _, size := range []int{16385, 16386, 20000, 1 << 20} {
			refuses(t, l, bytesOf(size, 1), api.ErrLarge)
		}
		holds(t, l, places, 0)
		want := api.OK
		if places < 34 {
			want = api.ErrFull
		}
		_, e := l.Append(bytesOf(16384, 1))
		errs(t, "Append", e, want)
		// Without room it is too large all the same.
		for l.Room() > 0 {
			l.Append(nil)
		}
		refuses(t, l, bytesOf(16385, 1), api.ErrLarge)
		refuses(t, l, nil, api.ErrFull)
	}
}

// Of so many places all can be taken, and not one more.
func TestFull(t *testing.T) {
	for places := 2; places < 45; places++ {
		for _, size := range sizes {
			need := placesOf(size)
			for taken := max(0, places-need-1); taken <= places; taken++ {
				fillsUp(t, places, taken, size)
			}
		}
	}
}

// fillsUp takes so many places of all, then appends a record.
func fillsUp(t *testing.T, places, taken, size int) {
	t.Helper()
	_, l := fresh(t, places)
	for i := range taken {
		appends(t, l, nil, i)
	}
	if l.Room() != places-taken {
		t.Errorf("Room: %d, not %d", l.Room(), places-taken)
	}
	if placesOf(size) > places-taken {
		refuses(t, l, bytesOf(size, 1), api.ErrFull)
		if l.Room() != places-taken || l.Next() != taken {
			t.Errorf("ErrFull: Room %d, Next %d", l.Room(), l.Next())
		}
		return
	}
	appends(t, l, bytesOf(size, 1), taken)
	if l.Room() != places-taken-placesOf(size) {
		t.Errorf("Room: %d", l.Room())
	}
}

// Places are used round and round; records of several places lie round the end, too.
func TestRoundAndRound(t *testing.T) {
	for places := 2; places < 12; places++ {
		for parts := 1; parts <= places; parts++ {
			d, l := fresh(t, places)
			var held [][]byte
			for seq := range 60 {
				for l.Room() < parts {
					ok(t, "Drop", l.Drop(l.First()+1))
					held = held[1:]
				}
				held = append(held, bytesOf(parts*496-seq%496, seq))
				appends(t, l, held[len(held)-1], seq)
				if seq%3 == 0 {
					ok(t, "Sync", l.Sync())
				}
				holds(t, l, places, seq+1-len(held), held...)
			}
			ok(t, "Sync", l.Sync())
			holds(t, opened(t, d), places, 60-len(held), held...)
		}
	}
}

// A log of the most places, full of records of one place each, and of the largest.
func TestTheMostPlaces(t *testing.T) {
	for _, size := range []int{1, 16384} {
		d, l := fresh(t, 4094)
		var all [][]byte
		for l.Room() >= placesOf(size) {
			all = append(all, bytesOf(size, len(all)))
			appends(t, l, all[len(all)-1], len(all)-1)
		}
		if len(all) != 4094/placesOf(size) {
			t.Errorf("%d records", len(all))
		}
		refuses(t, l, bytesOf(size, 1), api.ErrFull)
		holds(t, l, 4094, 0, all...)
		ok(t, "Sync", l.Sync())
		l = opened(t, d)
		holds(t, l, 4094, 0, all...)
		ok(t, "Drop", l.Drop(7))
		holds(t, l, 4094, 7, all[7:]...)
		appends(t, l, bytesOf(size, 5), len(all))
		ok(t, "Drop", l.Drop(len(all)+1))
		holds(t, opened(t, d), 4094, len(all)+1)
	}
}

// Drop lets go all below a number, from none of them to all.
func TestDrop(t *testing.T) {
	var all [][]byte
	for i, size := range []int{5, 1000, 0, 496, 497, 3000, 1} {
		all = append(all, bytesOf(size, i))
	}
	for sync := 0; sync <= len(all); sync++ {
		for seq := 0; seq <= len(all); seq++ {
			d, l := fresh(t, 20)
			for i, b := range all {
				if i == sync {
					ok(t, "Sync", l.Sync())
				}
				appends(t, l, b, i)
			}
			ok(t, "Drop", l.Drop(seq))
			holds(t, l, 20, seq, all[seq:]...)
			// All of it is sure now.
			ok(t, "Crash", d.Crash(0, math.MaxUint64))
			l = opened(t, d)
			holds(t, l, 20, seq, all[seq:]...)
			appends(t, l, []byte("next"), len(all))
			ok(t, "Drop", l.Drop(len(all)))
			holds(t, l, 20, len(all), []byte("next"))
		}
	}
}

func TestDropOfWhatIsNotThere(t *testing.T) {
	d, l := fresh(t, 10)
	for i := range 6 {
		appends(t, l, []byte{byte(i)}, i)
	}
	ok(t, "Drop", l.Drop(2))
	was := d.Copy()
	for range 2 {
		for _, seq := range []int{7, 8, 100, 1 << 56, math.MaxInt} {
			errs(t, "Drop", l.Drop(seq), api.ErrNone)
		}
		for _, seq := range []int{1, 0, -1, -2, -1 << 56, math.MinInt} {
			errs(t, "Drop", l.Drop(seq), api.ErrOld)
		}
		holds(t, l, 10, 2, []byte{2}, []byte{3}, []byte{4}, []byte{5})
	}
	alike(t, d, was)
	ok(t, "Drop", l.Drop(2))
	ok(t, "Drop", l.Drop(6))
	holds(t, l, 10, 6)
	errs(t, "Drop", l.Drop(5), api.ErrOld)
	errs(t, "Drop", l.Drop(7), api.ErrNone)
	ok(t, "Drop", l.Drop(6))
	holds(t, l, 10, 6)
}

// Each time that it is opened Epoch is one more; nothing else is changed.
func TestEpochs(t *testing.T) {
	d, l := fresh(t, 30)
	var all [][]byte
	for epoch := 1; epoch < 300; epoch++ {
		if l.Epoch() != epoch {
			t.Fatalf("Epoch: %d, not %d", l.Epoch(), epoch)
		}
		all = append(all, bytesOf(epoch*7, epoch))
		appends(t, l, all[len(all)-1], epoch-1)
		ok(t, "Sync", l.Sync())
		for l.Room() < 6 {
			ok(t, "Drop", l.Drop(l.First()+1))
		}
		if l.Epoch() != epoch {
			t.Fatalf("Epoch: %d, not %d", l.Epoch(), epoch)
		}
		l = opened(t, d)
		holds(t, l, 30, l.First(), all[l.First():]...)
	}
	if l.First() < 200 {
		t.Errorf("First is only %d", l.First())
	}
}

func TestNoLog(t *testing.T) {
	for _, l := range []*seglog.Log{nil, {}} {
		for range 2 {
			for _, b := range [][]byte{nil, {1}, make([]byte, 16385)} {
				refuses(t, l, b, api.ErrArg)
			}
			errs(t, "Sync", l.Sync(), api.ErrArg)
			for _, seq := range []int{0, -1, 1, math.MinInt, math.MaxInt} {
				unread(t, l, seq, api.ErrArg)
				errs(t, "Drop", l.Drop(seq), api.ErrArg)
			}
			if l.First() != 0 || l.Next() != 0 || l.Room() != 0 || l.Epoch() != 0 {
				t.Errorf("no log: %d, %d, %d, %d", l.First(), l.Next(), l.Room(), l.Epoch())
			}
		}
	}
}

// Without power all is ErrDown, and stays so for this log when the power is back.
func TestWithoutPower(t *testing.T) {
	sync := func(l *seglog.Log) api.Errno { return l.Sync() }
	drop := func(l *seglog.Log) api.Errno { return l.Drop(1) }
	for limit := 1; limit <= 14; limit++ {
		for _, call := range []func(*seglog.Log) api.Errno{sync, drop} {
			d, l := fresh(t, 10)
			appends(t, l, bytesOf(1, 1), 0)
			appends(t, l, bytesOf(2, 2), 1)
			ok(t, "Sync", l.Sync())
			appends(t, l, bytesOf(1000, 3), 2)
			ok(t, "Limit", d.Limit((limit+1)/2))
			if e := call(l); e == api.OK {
				ok(t, "Limit", d.Limit(1))
				errs(t, "Sync", l.Sync(), api.ErrDown)
			} else {
				errs(t, "call", e, api.ErrDown)
			}
			first, next, room, epoch := l.First(), l.Next(), l.Room(), l.Epoch()
			if limit%2 == 0 {
				isDown(t, l)
			}
			ok(t, "Crash", d.Crash(0, 0))
			isDown(t, l)
			if l.First() != first || l.Next() != next || l.Room() != room || l.Epoch() != epoch {
				t.Error("what is told is another one")
			}
			l = opened(t, d)
			if b, e := l.Read(1); e != api.OK || !bytes.Equal(b, bytesOf(2, 2)) {
				t.Errorf("Read: %v, %d", b, e)
			}
		}
	}
}

// isDown holds that each call that needs power is ErrDown, whatever it is given.
func isDown(t *testing.T, l *seglog.Log) {
	t.Helper()
	for _, b := range [][]byte{nil, {1}, make([]byte, 16384), make([]byte, 16385)} {
		refuses(t, l, b, api.ErrDown)
	}
	errs(t, "Sync", l.Sync(), api.ErrDown)
	for _, seq := range []int{0, 1, 2, 3, 4, -1, math.MinInt, math.MaxInt} {
		unread(t, l, seq, api.ErrDown)
		errs(t, "Drop", l.Drop(seq), api.ErrDown)
	}
}

// Whichever call is the first one that tells of the power, all behind it are down.
func TestFirstCallWithoutPower(t *testing.T) {
	calls := []func(l *seglog.Log) api.Errno{
		func(l *seglog.Log) api.Errno { _, e := l.Append(nil); return e },
		func(l *seglog.Log) api.Errno { _, e := l.Read(0); return e },
		func(l *seglog.Log) api.Errno { return l.Sync() },
		func(l *seglog.Log) api.Errno { return l.Drop(0) },
	}
	for _, call := range calls {
		d, l := fresh(t, 10)
		appends(t, l, nil, 0)
		ok(t, "Sync", l.Sync())
		ok(t, "Limit", d.Limit(1))
		errs(t, "Sync", d.Sync(), api.ErrDown)
		errs(t, "call", call(l), api.ErrDown)
		ok(t, "Crash", d.Crash(0, 0))
		isDown(t, l)
	}
}

// An Append needs no power, as long as no call was ErrDown.
func TestAppendAtTheLimit(t *testing.T) {
	for limit := 1; limit < 5; limit++ {
		d, l := fresh(t, 60)
		ok(t, "Limit", d.Limit(limit))
		for i := range 10 {
			appends(t, l, bytesOf(i*200, i), i)
		}
		errs(t, "Sync", l.Sync(), api.ErrDown)
		refuses(t, l, nil, api.ErrDown)
		ok(t, "Crash", d.Crash(0, 0))
		holds(t, opened(t, d), 60, 0)
	}
}

// A Sync at the limit is ErrDown, whether there is anything unsure or not.
func TestSyncOfNothing(t *testing.T) {
	d, l := fresh(t, 4)
	ok(t, "Limit", d.Limit(2))
	ok(t, "Sync", l.Sync())
	errs(t, "Sync", l.Sync(), api.ErrDown)
}

// alike holds a device against another one: what is read, and what is unsure.
func alike(t *testing.T, d, was *flash.Device) {
	t.Helper()
	if d.Len() != was.Len() || d.Down() != was.Down() {
		t.Errorf("Len %d, Down %t, not %d, %t", d.Len(), d.Down(), was.Len(), was.Down())
	}
	same := func(a, b api.Write) bool { return a.At == b.At && bytes.Equal(a.Data, b.Data) }
	if a, b := d.Unsure(), was.Unsure(); !slices.EqualFunc(a, b, same) {
		t.Errorf("Unsure: %d writes, not %d, or others", len(a), len(b))
	}
	for at := range d.Len() {
		a, ae := d.Read(at)
		b, be := was.Read(at)
		if ae != be || !bytes.Equal(a, b) {
			t.Errorf("sector %d: %x, %d, not %x, %d", at, a, ae, b, be)
		}
	}
}
