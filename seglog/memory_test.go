package seglog_test

import (
	"bytes"
	"math"
	"slices"
	"testing"

	"gazetteer/api"
)

// What is handed in is neither changed nor kept, its spare room included.
func TestWhatIsHandedIn(t *testing.T) {
	for _, size := range sizes {
		_, l := fresh(t, 40)
		whole := bytesOf(size+2000, 3)
		was := slices.Clone(whole)
		appends(t, l, whole[:size], 0)
		if !bytes.Equal(whole, was) {
			t.Errorf("Append of %d bytes changed them, or those behind", size)
		}
		clear(whole)
		holds(t, l, 40, 0, was[:size])
		ok(t, "Sync", l.Sync())
		holds(t, l, 40, 0, was[:size])
	}
}

// What is answered is new memory, sure or not.
func TestWhatIsAnswered(t *testing.T) {
	d, l := fresh(t, 80)
	var all [][]byte
	for i, size := range []int{1, 496, 497, 3000, 16384} {
		all = append(all, bytesOf(size, i))
		appends(t, l, all[i], i)
	}
	for range 2 {
		for i, want := range all {
			a, _ := l.Read(i)
			b, _ := l.Read(i)
			spoil(a)
			if !bytes.Equal(b, want) {
				t.Errorf("two answers of Read(%d) share memory", i)
			}
			spoil(b)
		}
		holds(t, l, 80, 0, all...)
		ok(t, "Sync", l.Sync())
	}
	holds(t, opened(t, d), 80, 0, all...)
}

// spoil writes over all of b, and over its room.
func spoil(b []byte) {
	b = b[:cap(b)]
	for i := range b {
		b[i] ^= 255
	}
}

// Append and all that only tells leave the device as it is, and its limit.
func TestWhatOnlyTells(t *testing.T) {
	d, l := fresh(t, 20)
	appends(t, l, bytesOf(1000, 1), 0)
	ok(t, "Sync", l.Sync())
	ok(t, "Limit", d.Limit(2))
	was := d.Copy()
	appends(t, l, bytesOf(500, 2), 1)
	for range 5 {
		holds(t, l, 20, 0, bytesOf(1000, 1), bytesOf(500, 2))
		if l.Epoch() != 1 {
			t.Errorf("Epoch: %d", l.Epoch())
		}
		refuses(t, l, bytesOf(16385, 1), api.ErrLarge)
		refuses(t, l, bytesOf(16384, 1), api.ErrFull)
		errs(t, "Drop", l.Drop(3), api.ErrNone)
		errs(t, "Drop", l.Drop(-1), api.ErrOld)
	}
	alike(t, d, was)
	ok(t, "Sync", d.Sync())
	errs(t, "Sync", d.Sync(), api.ErrDown)
}

// Logs of two devices share nothing.
func TestTwoDevices(t *testing.T) {
	a, one := fresh(t, 6)
	b, two := fresh(t, 9)
	appends(t, one, []byte("one"), 0)
	holds(t, two, 9, 0)
	appends(t, two, []byte("two"), 0)
	appends(t, two, []byte("more"), 1)
	ok(t, "Sync", one.Sync())
	ok(t, "Limit", b.Limit(1))
	errs(t, "Drop", two.Drop(1), api.ErrDown)
	ok(t, "Drop", one.Drop(1))
	holds(t, one, 6, 1)
	c := a.Copy()
	appends(t, one, []byte("next"), 1)
	ok(t, "Sync", one.Sync())
	holds(t, opened(t, c), 6, 1)
	holds(t, opened(t, a), 6, 1, []byte("next"))
}

// A Log that is opened behind another one finds what was sure.
func TestOneBehindTheOther(t *testing.T) {
	d, l := fresh(t, 6)
	appends(t, l, []byte("sure"), 0)
	ok(t, "Sync", l.Sync())
	appends(t, l, []byte("unsure"), 1)
	l = opened(t, d)
	if l.Next() < 1 || l.Epoch() != 2 {
		t.Errorf("Next %d, Epoch %d", l.Next(), l.Epoch())
	}
	if b, e := l.Read(0); e != api.OK || string(b) != "sure" {
		t.Errorf("Read: %s, %d", b, e)
	}
	ok(t, "Crash", d.Crash(0, math.MaxUint64))
	l = opened(t, d)
	if b, e := l.Read(0); e != api.OK || string(b) != "sure" {
		t.Errorf("Read: %s, %d", b, e)
	}
}
