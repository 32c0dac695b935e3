package seglog_test

import (
	"math/rand"
	"testing"

	"gazetteer/api"
	"gazetteer/flash"
	"gazetteer/seglog"
)

// lived is a log, its device, and what was done to it.
type lived struct {
	draw   *rand.Rand
	places int
	d      *flash.Device
	l      *seglog.Log
	past   past
	down   bool
	lost   int // how often unsure records were lost
	kept   int // how often some of them were not
	cuts   int // how often a Drop that was cut off took place
}

func begin(t *testing.T, seed int64) *lived {
	t.Helper()
	draw := rand.New(rand.NewSource(seed))
	v := &lived{draw: draw, places: 2 + draw.Intn(40)}
	v.d, v.l = fresh(t, v.places)
	v.past = past{cut: -1, epoch: 1}
	return v
}

// size is mostly that of a few places.
func (v *lived) size() int {
	switch v.draw.Intn(12) {
	case 0:
		return sizes[v.draw.Intn(len(sizes))]
	case 1:
		return v.draw.Intn(api.MaxRecord + 1)
	case 2:
		return 496 * v.draw.Intn(5)
	case 3:
		return 0
	}
	return v.draw.Intn(1500)
}

// step does a drawn call, and notes whether the power went.
func (v *lived) step(t *testing.T) {
	t.Helper()
	e := api.OK
	switch x := v.draw.Intn(100); {
	case x < 50:
		e = v.past.add(t, v.l, v.size())
	case x < 70:
		e = v.past.sync(t, v.l)
	case x < 85:
		e = v.past.drop(t, v.l, v.draw.Intn(1+v.draw.Intn(8)))
	case x < 90 && !v.down:
		ok(t, "Limit", v.d.Limit(v.draw.Intn(30)))
	case x < 97:
		v.crash(t)
		return
	}
	v.down = v.down || e == api.ErrDown
	if v.down {
		isDown(t, v.l)
		return
	}
	holds(t, v.l, v.places, v.past.first, v.past.all[v.past.first:]...)
}

// crash is one, and opens the log again, at times cut off.
func (v *lived) crash(t *testing.T) {
	t.Helper()
	ok(t, "Crash", v.d.Crash(v.draw.Uint64()|v.draw.Uint64(), v.draw.Uint64()&v.draw.Uint64()&v.draw.Uint64()))
	for v.draw.Intn(3) == 0 {
		ok(t, "Limit", v.d.Limit(1+v.draw.Intn(3)))
		if l, e := seglog.Open(v.d); e != api.ErrDown || l != nil {
			t.Fatalf("Open: %v, %d", l, e)
		}
		ok(t, "Crash", v.d.Crash(v.draw.Uint64(), v.draw.Uint64()))
	}
	all, sure, first := len(v.past.all), v.past.sure, v.past.first
	v.l = opened(t, v.d)
	v.past.holds(t, v.l, v.places)
	v.down = false
	if len(v.past.all) < all {
		v.lost++
	}
	if len(v.past.all) > sure {
		v.kept++
	}
	if v.past.first > first {
		v.cuts++
	}
}

func TestAsTheModel(t *testing.T) {
	lost, kept, cuts, records := 0, 0, 0, 0
	for seed := range int64(300) {
		v := begin(t, seed)
		for i := range 200 {
			v.step(t)
			if t.Failed() {
				t.Fatalf("seed %d, step %d", seed, i)
			}
		}
		lost, kept, cuts, records = lost+v.lost, kept+v.kept, cuts+v.cuts, records+len(v.past.all)
	}
	if lost < 100 || kept < 100 || cuts < 20 || records < 5000 {
		t.Errorf("unsure records were lost %d times, kept %d times; %d Drops; %d records", lost, kept, cuts, records)
	}
}

// The same calls, done again from the beginning, have the same answers.
func TestTheSameCallsHaveTheSameAnswers(t *testing.T) {
	for seed := range int64(20) {
		a, b := begin(t, seed), begin(t, seed)
		for range 100 {
			a.step(t)
			b.step(t)
			if a.l.First() != b.l.First() || a.l.Next() != b.l.Next() || a.l.Epoch() != b.l.Epoch() || a.down != b.down {
				t.Fatalf("seed %d: other answers", seed)
			}
		}
		alike(t, a.d, b.d)
	}
}
