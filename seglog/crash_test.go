package seglog_test

import (
	"bytes"
	"math"
	"math/bits"
	"testing"

	"gazetteer/api"
	"gazetteer/flash"
	"gazetteer/seglog"
)

// past is what was done to a log, as far as it tells what may be there behind a
// crash.
type past struct {
	all   [][]byte // the records that were appended, from number 0 on
	sure  int      // how many of them are sure
	first int      // that of the last Drop that was OK
	cut   int      // the number of the first Drop that was cut off; -1: of none
	epoch int      // that of the last Open that was OK
	seed  int      // of the next record
}

// copy answers what is changed apart from p.
func (p *past) copy() *past {
	c := *p
	c.all = c.all[:len(c.all):len(c.all)]
	return &c
}

// add appends a record of so many bytes, if there is room.
func (p *past) add(t *testing.T, l *seglog.Log, size int) api.Errno {
	t.Helper()
	b := bytesOf(size, p.seed)
	p.seed++
	full := placesOf(size) > l.Room()
	seq, e := l.Append(b)
	switch {
	case full && e != api.ErrDown:
		errs(t, "Append without room", e, api.ErrFull)
	case e == api.OK && seq != len(p.all):
		t.Errorf("Append: %d, not %d", seq, len(p.all))
	case e == api.OK:
		p.all = append(p.all, b)
	default:
		errs(t, "Append", e, api.ErrDown)
	}
	return e
}

func (p *past) sync(t *testing.T, l *seglog.Log) api.Errno {
	t.Helper()
	e := l.Sync()
	if e == api.OK {
		p.sure = len(p.all)
	} else {
		errs(t, "Sync", e, api.ErrDown)
	}
	return e
}

// drop lets so many records go, if there are so many.
func (p *past) drop(t *testing.T, l *seglog.Log, n int) api.Errno {
	t.Helper()
	seq := min(p.first+n, len(p.all))
	e := l.Drop(seq)
	if e == api.OK {
		p.first, p.sure = seq, len(p.all)
	} else {
		errs(t, "Drop", e, api.ErrDown)
		if p.cut < 0 {
			p.cut = seq
		}
	}
	return e
}

// holds holds a log that was opened behind a crash against what may be there; from
// now on that is what was done.
func (p *past) holds(t *testing.T, l *seglog.Log, places int) {
	t.Helper()
	first, next := l.First(), l.Next()
	if first != p.first && (first != p.cut || p.cut > next) {
		t.Fatalf("First: %d, neither %d nor %d", first, p.first, p.cut)
	}
	if next < p.sure || next > len(p.all) || next < first {
		t.Fatalf("Next: %d, not from %d to %d", next, p.sure, len(p.all))
	}
	if l.Epoch() <= p.epoch {
		t.Errorf("Epoch: %d, not above %d", l.Epoch(), p.epoch)
	}
	// Drop begins when all is sure.
	if first != p.first && next != len(p.all) {
		t.Errorf("Drop(%d) took place, but of %d records there are %d", first, len(p.all), next)
	}
	p.all, p.sure, p.first, p.cut, p.epoch = p.all[:next:next], next, first, -1, l.Epoch()
	holds(t, l, places, first, p.all[first:]...)
}

// step is one of a history: 'a' appends a record of n bytes, 's' is Sync, 'd' lets
// n records go.
type step struct {
	kind byte
	n    int
}

// run takes the steps till the power goes; it tells whether it lasted.
func (p *past) run(t *testing.T, l *seglog.Log, steps []step) bool {
	t.Helper()
	for _, s := range steps {
		e := api.OK
		switch s.kind {
		case 'a':
			e = p.add(t, l, s.n)
		case 's':
			e = p.sync(t, l)
		case 'd':
			e = p.drop(t, l, s.n)
		}
		if e == api.ErrDown {
			return false
		}
	}
	return true
}

// histories are such that places are used again, and that records lie round the end.
var histories = [][]step{
	{{'s', 0}, {'a', 1}, {'a', 2}, {'a', 3}, {'s', 0}, {'a', 4}, {'s', 0}},
	{{'a', 900}, {'a', 1}, {'s', 0}, {'d', 1}, {'a', 1200}, {'s', 0}, {'d', 1}, {'a', 700}, {'s', 0}},
	{{'a', 2000}, {'s', 0}, {'d', 1}, {'a', 1100}, {'a', 5}, {'d', 1}, {'a', 1000}, {'d', 2}},
	{{'a', 1}, {'a', 2}, {'d', 2}, {'a', 3}, {'a', 4}, {'a', 5}, {'d', 0}, {'d', 1}, {'s', 0}, {'d', 2}},
	{{'a', 1}, {'s', 0}, {'d', 1}, {'a', 2}, {'s', 0}, {'d', 1}, {'a', 3}, {'s', 0}, {'d', 1}, {'a', 4}, {'s', 0}, {'d', 1}},
	{{'a', 496}, {'a', 497}, {'a', 0}, {'s', 0}, {'d', 2}, {'a', 1488}, {'s', 0}, {'d', 9}, {'a', 2400}, {'s', 0}},
}

// crashes are what a crash does to so many unsure writes: for a few of them all that
// there is, each done, torn or forgotten.
func crashes(unsure int) [][2]uint64 {
	out := [][2]uint64{{0, 0}, {math.MaxUint64, 0}, {0, math.MaxUint64}, {math.MaxUint64, math.MaxUint64}}
	if unsure > 4 {
		for k := range unsure {
			bit := uint64(1) << k
			out = append(out, [2]uint64{bit - 1, 0}, [2]uint64{^bit, 0}, [2]uint64{^bit, bit}, [2]uint64{bit, 0}, [2]uint64{bit, ^bit})
		}
		return out
	}
	for mask := range uint64(1) << unsure {
		for torn := range uint64(1) << unsure {
			if mask&torn == 0 {
				out = append(out, [2]uint64{mask, torn})
			}
		}
	}
	return out
}

// behind goes through all that a crash may do to a device without power, which is
// left as it is.
func behind(t *testing.T, d *flash.Device, do func(c *flash.Device)) {
	t.Helper()
	for _, x := range crashes(len(d.Unsure())) {
		c := d.Copy()
		ok(t, "Crash", c.Crash(x[0], x[1]))
		do(c)
	}
}

// cutOff goes through a history, the power of which goes at each of its writes and
// Syncs in turn, and last at none.
func cutOff(t *testing.T, places int, steps []step, do func(d *flash.Device, p *past)) {
	t.Helper()
	for limit := 1; ; limit++ {
		d, l := fresh(t, places)
		p := &past{cut: -1, epoch: 1}
		ok(t, "Limit", d.Limit(limit))
		lasted := p.run(t, l, steps)
		do(d, p)
		if lasted || t.Failed() {
			return
		}
	}
}

func TestBehindACrash(t *testing.T) {
	some, most := 0, 0
	for _, steps := range histories {
		for _, places := range []int{5, 6, 7} {
			cutOff(t, places, steps, func(d *flash.Device, p *past) {
				behind(t, d, func(c *flash.Device) {
					q := p.copy()
					q.holds(t, opened(t, c), places)
					if q.sure > p.sure && q.sure < len(p.all) {
						some++
					}
					if p.cut > p.first && q.first == p.cut {
						most++
					}
				})
			})
		}
	}
	if some == 0 || most == 0 {
		t.Errorf("%d times some unsure records lasted, %d times a Drop that was cut off", some, most)
	}
}

// What was lost is never there again, whatever is appended in its places and lost in
// its turn.
func TestBehindTwoCrashes(t *testing.T) {
	lives := [][]step{
		{{'a', 7}, {'s', 0}},
		{{'a', 1000}, {'a', 6}, {'s', 0}},
		{{'a', 5}, {'d', 1}},
	}
	for _, steps := range histories {
		cutOff(t, 6, steps, func(d *flash.Device, p *past) {
			behind(t, d, func(c *flash.Device) {
				for i := range lives {
					secondLife(t, c, p, lives[i])
				}
			})
		})
	}
}

// secondLife opens a copy of a device behind its crash, and lets the power go at
// each write of these steps.
func secondLife(t *testing.T, d *flash.Device, p *past, steps []step) {
	t.Helper()
	for limit := 1; ; limit++ {
		c, q := d.Copy(), p.copy()
		l := opened(t, c)
		q.holds(t, l, 6)
		ok(t, "Limit", c.Limit(limit))
		lasted := q.run(t, l, steps)
		behind(t, c, func(c *flash.Device) {
			r := q.copy()
			r.holds(t, opened(t, c), 6)
		})
		if lasted || t.Failed() {
			return
		}
	}
}

// Opening is cut off again and again.
func TestOpenCutOff(t *testing.T) {
	for _, steps := range histories {
		cutOff(t, 6, steps, func(d *flash.Device, p *past) {
			behind(t, d, func(c *flash.Device) {
				for cuts := range 3 * 3 * 3 {
					openedAtLast(t, c.Copy(), p.copy(), cuts)
				}
			})
		})
	}
}

// openedAtLast cuts Open off three times, each time at the place that a digit of
// cuts tells.
func openedAtLast(t *testing.T, d *flash.Device, p *past, cuts int) {
	t.Helper()
	for _, x := range [][2]uint64{{0, 1}, {1, 0}, {0, 0}} {
		ok(t, "Limit", d.Limit(cuts%3+1))
		cuts /= 3
		if l, e := seglog.Open(d); e != api.ErrDown || l != nil {
			t.Fatalf("Open: %v, %d", l, e)
		}
		ok(t, "Crash", d.Crash(x[0], x[1]))
	}
	l := opened(t, d)
	p.holds(t, l, 6)
	p.run(t, l, []step{{'a', 3}, {'s', 0}})
	ok(t, "Crash", d.Crash(0, math.MaxUint64))
	p.holds(t, opened(t, d), 6)
}

// The first Open of all is cut off, torn or not.
func TestFirstOpenCutOff(t *testing.T) {
	for limit := 1; limit <= 3; limit++ {
		for bits := range uint64(4) {
			d := device(t, 8)
			for range 5 {
				ok(t, "Limit", d.Limit(limit))
				if l, e := seglog.Open(d); e != api.ErrDown || l != nil {
					t.Fatalf("Open: %v, %d", l, e)
				}
				ok(t, "Crash", d.Crash(bits&1, bits>>1))
			}
			p := &past{cut: -1}
			l := opened(t, d)
			p.holds(t, l, 6)
			p.run(t, l, histories[0])
			p.holds(t, opened(t, d), 6)
		}
	}
}

// Of the unsure records the first few last: as many as were done ahead of the first
// one that was not.
func TestTheFirstFew(t *testing.T) {
	d, l := fresh(t, 10)
	var all [][]byte
	for i, size := range []int{1, 900, 2, 1000, 3} {
		all = append(all, bytesOf(size, i))
		appends(t, l, all[i], i)
	}
	ok(t, "Limit", d.Limit(9))
	errs(t, "Sync", l.Sync(), api.ErrDown)
	for mask := range uint64(1 << 8) {
		c := d.Copy()
		ok(t, "Crash", c.Crash(mask, 0))
		done := bits.TrailingZeros64(^mask)
		n := []int{0, 1, 1, 2, 3, 3, 3, 4, 5}[done]
		holds(t, opened(t, c), 10, 0, all[:n]...)
		c = d.Copy()
		ok(t, "Crash", c.Crash(math.MaxUint64, ^mask))
		holds(t, opened(t, c), 10, 0, all[:n]...)
	}
}

// While nothing was ErrDown the device has nothing that a crash would forget: so a
// log goes on behind one.
func TestCrashWithPower(t *testing.T) {
	for bit := range uint64(2) {
		d, l := fresh(t, 12)
		var all [][]byte
		for i := range 10 {
			all = append(all, bytesOf(i*40, i))
			appends(t, l, all[i], i)
			ok(t, "Crash", d.Crash(0, -bit))
			holds(t, l, 12, 0, all...)
			if i%3 == 2 {
				ok(t, "Sync", l.Sync())
				ok(t, "Crash", d.Crash(0, -bit))
				holds(t, l, 12, 0, all...)
			}
		}
		ok(t, "Drop", l.Drop(2))
		ok(t, "Crash", d.Crash(0, -bit))
		holds(t, l, 12, 2, all[2:]...)
		holds(t, opened(t, d), 12, 2, all[2:]...)
	}
}

// A record of an epoch ahead lies just where the next one will be looked for.
func TestLeftOvers(t *testing.T) {
	d, l := fresh(t, 6)
	appends(t, l, []byte("lost"), 0)
	appends(t, l, []byte("left"), 1)
	ok(t, "Limit", d.Limit(3))
	errs(t, "Sync", l.Sync(), api.ErrDown)
	ok(t, "Crash", d.Crash(2, 0))
	l = opened(t, d)
	holds(t, l, 6, 0)
	appends(t, l, []byte("new"), 0)
	ok(t, "Sync", l.Sync())
	for range 3 {
		ok(t, "Crash", d.Crash(0, 0))
		l = opened(t, d)
		holds(t, l, 6, 0, []byte("new"))
	}
	ok(t, "Drop", l.Drop(1))
	l = opened(t, d)
	holds(t, l, 6, 1)
	if b, e := l.Read(1); e != api.ErrNone || !bytes.Equal(b, nil) {
		t.Errorf("Read: %s, %d", b, e)
	}
}
