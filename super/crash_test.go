package super_test

import (
	"bytes"
	"math"
	"testing"

	"gazetteer/api"
	"gazetteer/flash"
	"gazetteer/super"
)

// held is a device of 4 sectors with as many blocks saved, some(0, 0), some(1, 1),
// and so on, and two writes that are unsure, to sectors 2 and 3.
func held(t *testing.T, saved int) *flash.Device {
	t.Helper()
	d := device(t, 4)
	for gen := range saved {
		saves(t, d, some(gen, gen))
	}
	ok(t, "Write", d.Write(2, []byte{2}))
	ok(t, "Write", d.Write(3, []byte{3}))
	return d
}

// has holds the first byte of a sector, all others of which are 0.
func has(t *testing.T, d *flash.Device, at int, want byte) {
	t.Helper()
	if b, e := d.Read(at); e != api.OK || !bytes.Equal(b, full([]byte{want})) {
		t.Errorf("sector %d: %x, %d, not %d", at, b, e, want)
	}
}

// countsLast holds that of so many blocks the last one counts.
func countsLast(t *testing.T, d *flash.Device, saved int) {
	t.Helper()
	if saved == 0 {
		fails(t, d, api.ErrNone)
	} else {
		loads(t, d, some(saved-1, saved-1))
	}
}

// bits are those of Crash.
var bits = [9]uint64{0, 1, 2, 3, 4, 7, 1 << 63, math.MaxUint64 - 1, math.MaxUint64}

// crashes goes through devices with some blocks saved, and through crashes.
func crashes(do func(saved int, mask, torn uint64)) {
	for saved := range 6 {
		for _, mask := range bits {
			for _, torn := range bits {
				do(saved, mask, torn)
			}
		}
	}
}

// cutOff is a device as held's, behind the Save of some(saved, 9) during which the
// power goes.
func cutOff(t *testing.T, saved, limit int) *flash.Device {
	t.Helper()
	d := held(t, saved)
	ok(t, "Limit", d.Limit(limit))
	errs(t, "Save", super.Save(d, some(saved, 9)), api.ErrDown)
	fails(t, d, api.ErrDown)
	return d
}

// Behind OK it counts, whatever Crash does.
func TestSavedForGood(t *testing.T) {
	crashes(func(saved int, mask, torn uint64) {
		d := held(t, saved)
		saves(t, d, some(saved, saved))
		for range 3 {
			ok(t, "Crash", d.Crash(mask, torn))
			loads(t, d, some(saved, saved))
			has(t, d, 2, 2)
			has(t, d, 3, 3)
		}
		saves(t, d, some(saved+1, saved+1))
	})
}

// The power goes at the first Sync: nothing was done yet.
func TestCutOffAtTheFirstSync(t *testing.T) {
	crashes(func(saved int, mask, torn uint64) {
		d := cutOff(t, saved, 1)
		pending(t, d, 2, 3)
		ok(t, "Crash", d.Crash(mask, torn))
		countsLast(t, d, saved)
		saves(t, d, some(saved, saved))
	})
}

// The power goes at the Write: what was unsure is sure, and no more was done.
func TestCutOffAtTheWrite(t *testing.T) {
	crashes(func(saved int, mask, torn uint64) {
		d := cutOff(t, saved, 2)
		pending(t, d)
		ok(t, "Crash", d.Crash(mask, torn))
		countsLast(t, d, saved)
		has(t, d, 2, 2)
		has(t, d, 3, 3)
		saves(t, d, some(saved, saved))
	})
}

// The power goes at the last Sync: the block alone is unsure.
func TestCutOffAtTheLastSync(t *testing.T) {
	crashes(func(saved int, mask, torn uint64) {
		d := cutOff(t, saved, 3)
		pending(t, d, saved%2)
		if u := d.Unsure(); !bytes.Equal(u[0].Data, bytesOf(some(saved, 9))) {
			t.Errorf("what is unsure: %x", u[0].Data)
		}
		ok(t, "Crash", d.Crash(mask, torn))
		has(t, d, 2, 2)
		has(t, d, 3, 3)
		if torn&1 == 0 && mask&1 == 1 {
			loads(t, d, some(saved, 9))
			saves(t, d, some(saved+1, 0))
			return
		}
		countsLast(t, d, saved)
		saves(t, d, some(saved, saved))
	})
}

// A Save is two Syncs and a Write: at more the power lasts.
func TestNotCutOff(t *testing.T) {
	for saved := range 5 {
		d := held(t, saved)
		ok(t, "Limit", d.Limit(4))
		saves(t, d, some(saved, 9))
		if d.Down() {
			t.Error("the power went")
		}
		errs(t, "Save", super.Save(d, some(saved+1, 9)), api.ErrDown)
		ok(t, "Crash", d.Crash(math.MaxUint64, 0))
		loads(t, d, some(saved, 9))
	}
}

// pending holds the sectors of what is unsure.
func pending(t *testing.T, d *flash.Device, want ...int) {
	t.Helper()
	got := d.Unsure()
	if len(got) != len(want) {
		t.Fatalf("%d writes are unsure, not %d", len(got), len(want))
	}
	for i, at := range want {
		if got[i].At != at {
			t.Errorf("unsure write %d: sector %d, not %d", i, got[i].At, at)
		}
	}
}

// Cut off again and again, each time torn, there is always the one ahead.
func TestTornAgainAndAgain(t *testing.T) {
	d := device(t, 2)
	for gen := range 40 {
		for cut := range 6 {
			ok(t, "Limit", d.Limit(cut%3+1))
			errs(t, "Save", super.Save(d, some(gen, cut)), api.ErrDown)
			ok(t, "Crash", d.Crash(0, math.MaxUint64))
			if gen == 0 {
				fails(t, d, api.ErrNone)
			} else {
				loads(t, d, some(gen-1, 9))
			}
		}
		if _, e := d.Read(gen % 2); e != api.ErrTorn {
			t.Errorf("sector %d is not torn: %d", gen%2, e)
		}
		saves(t, d, some(gen, 9))
	}
}
