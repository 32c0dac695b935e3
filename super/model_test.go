package super_test

import (
	"math/rand"
	"testing"

	"gazetteer/api"
	"gazetteer/flash"
	"gazetteer/super"
)

// model is what a device of blocks tells: the one that is sure, and the one whose
// Save was cut off.
type model struct {
	block super.Block
	has   bool
	left  int // writes and syncs till the power goes; 0: it does not
	down  bool
	cut   super.Block // unsure, if half is true
	half  bool
}

// lasts counts a step, and tells whether the power lasts for it.
func (m *model) lasts() bool {
	if m.left == 1 {
		m.down = true
	}
	m.left = max(m.left-1, 0)
	return !m.down
}

func (m *model) load() (super.Block, api.Errno) {
	switch {
	case m.down:
		return super.Block{}, api.ErrDown
	case !m.has:
		return super.Block{}, api.ErrNone
	}
	return m.block, api.OK
}

func (m *model) save(b super.Block) api.Errno {
	if m.down {
		return api.ErrDown
	}
	for _, n := range []int{b.Gen, b.Epoch, b.First, b.From, b.Count} {
		if n < 0 || n > greatest {
			return api.ErrRange
		}
	}
	if m.has && b.Gen != m.block.Gen+1 || !m.has && b.Gen != 0 {
		return api.ErrRange
	}
	if !m.lasts() || !m.lasts() {
		return api.ErrDown
	}
	if !m.lasts() {
		m.cut, m.half = b, true
		return api.ErrDown
	}
	m.block, m.has = b, true
	return api.OK
}

func (m *model) crash(mask, torn uint64) {
	if m.half && torn&1 == 0 && mask&1 == 1 {
		m.block, m.has = m.cut, true
	}
	m.half, m.left, m.down = false, 0, false
}

// number is mostly one that fits.
func number(draw *rand.Rand) int {
	switch draw.Intn(40) {
	case 0:
		return -1 - draw.Intn(3)
	case 1:
		return greatest + draw.Intn(3) - 1
	case 2:
		return int(draw.Uint64())
	case 3:
		return draw.Intn(3)
	}
	return int(draw.Uint64() >> (8 + draw.Intn(56)))
}

// doOne does a drawn call on both.
func doOne(t *testing.T, draw *rand.Rand, d *flash.Device, m *model) {
	t.Helper()
	switch x := draw.Intn(100); {
	case x < 65:
		b := super.Block{Gen: m.block.Gen, Epoch: number(draw), First: number(draw), From: number(draw), Count: number(draw)}
		if m.has {
			b.Gen++
		}
		if draw.Intn(8) == 0 {
			b.Gen += draw.Intn(5) - 2
		}
		errs(t, "Save", super.Save(d, b), m.save(b))
	case x < 80:
		mask, torn := draw.Uint64(), draw.Uint64()&draw.Uint64()
		ok(t, "Crash", d.Crash(mask, torn))
		m.crash(mask, torn)
	default:
		m.left = draw.Intn(9)
		ok(t, "Limit", d.Limit(m.left))
	}
	want, wantE := m.load()
	if b, e := super.Load(d); e != wantE || b != want {
		t.Errorf("Load: %+v, %d, not %+v, %d", b, e, want, wantE)
	}
}

func TestAsTheModel(t *testing.T) {
	for seed := range int64(200) {
		draw := rand.New(rand.NewSource(seed))
		m := &model{}
		d := device(t, 2+draw.Intn(3))
		for step := range 300 {
			doOne(t, draw, d, m)
			if t.Failed() {
				t.Fatalf("seed %d, step %d", seed, step)
			}
		}
		if m.block.Gen < 10 {
			t.Errorf("seed %d: only Gen %d was come to", seed, m.block.Gen)
		}
	}
}

// The same calls, done again from the beginning, have the same answers.
func TestTheSameCallsHaveTheSameAnswers(t *testing.T) {
	run := func() *flash.Device {
		draw := rand.New(rand.NewSource(5))
		d, m := device(t, 3), &model{}
		for range 200 {
			doOne(t, draw, d, m)
		}
		return d
	}
	alike(t, run(), run())
}
