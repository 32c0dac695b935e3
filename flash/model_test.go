package flash_test

import (
	"bytes"
	"math/rand"
	"testing"

	"gazetteer/api"
	"gazetteer/flash"
)

// step is what happened to a sector: it was written, or torn.
type step struct {
	at   int
	data []byte
	torn bool
}

// model is a device as the document tells it: it looks back through all that
// happened, from the last step on.
type model struct {
	sectors      int
	past, unsure []step
	left         int
	down         bool
}

func (m *model) read(at int) ([]byte, api.Errno) {
	if m.down {
		return nil, api.ErrDown
	}
	if at < 0 || at >= m.sectors {
		return nil, api.ErrArg
	}
	for _, list := range [][]step{m.unsure, m.past} {
		for i := len(list) - 1; i >= 0; i-- {
			if list[i].at != at {
				continue
			}
			if list[i].torn {
				return nil, api.ErrTorn
			}
			return list[i].data, api.OK
		}
	}
	return full(), api.OK
}

// cutOff tells whether the power goes at this call.
func (m *model) cutOff() bool {
	if m.left == 1 {
		m.down = true
	}
	m.left = max(m.left-1, 0)
	return m.down
}

func (m *model) write(at int, b []byte) api.Errno {
	if m.down {
		return api.ErrDown
	}
	if at < 0 || at >= m.sectors || len(b) > 512 {
		return api.ErrArg
	}
	if m.cutOff() {
		return api.ErrDown
	}
	m.unsure = append(m.unsure, step{at: at, data: full(b...)})
	return api.OK
}

func (m *model) sync() api.Errno {
	if m.down || m.cutOff() {
		return api.ErrDown
	}
	m.past = append(m.past, m.unsure...)
	m.unsure = nil
	return api.OK
}

func (m *model) crash(mask, torn uint64) {
	for k, s := range m.unsure {
		if torn>>(k%64)%2 == 1 {
			m.past = append(m.past, step{at: s.at, torn: true})
		} else if mask>>(k%64)%2 == 1 {
			m.past = append(m.past, s)
		}
	}
	m.unsure, m.left, m.down = nil, 0, false
}

func (m *model) copy() *model {
	c := *m
	c.past = append([]step(nil), m.past...)
	c.unsure = append([]step(nil), m.unsure...)
	return &c
}

// agree holds all that a device tells against the model.
func agree(t *testing.T, d *flash.Device, m *model) {
	t.Helper()
	if d.Len() != m.sectors || d.Down() != m.down {
		t.Fatalf("Len %d, Down %t, not %d, %t", d.Len(), d.Down(), m.sectors, m.down)
	}
	for at := -1; at <= m.sectors; at++ {
		want, wantE := m.read(at)
		if b, e := d.Read(at); e != wantE || !bytes.Equal(b, want) {
			t.Fatalf("Read(%d): %v, %d, not %v, %d", at, b, e, want, wantE)
		}
	}
	list := d.Unsure()
	if len(list) != len(m.unsure) {
		t.Fatalf("Unsure: %d, not %d", len(list), len(m.unsure))
	}
	for i, s := range m.unsure {
		if list[i].At != s.at || !bytes.Equal(list[i].Data, s.data) {
			t.Fatalf("Unsure: %d: %v, not %v", i, list[i], s)
		}
	}
}

// drawnBytes are mostly few, sometimes about as many as a sector holds.
func drawnBytes(draw *rand.Rand) []byte {
	size := draw.Intn(4)
	if draw.Intn(4) == 0 {
		size = 509 + draw.Intn(6)
	}
	b := make([]byte, size)
	draw.Read(b)
	return b
}

// drawnBits are few, or many, or all.
func drawnBits(draw *rand.Rand) uint64 {
	switch draw.Intn(4) {
	case 0:
		return 0
	case 1:
		return ^uint64(0)
	case 2:
		return draw.Uint64() & draw.Uint64()
	}
	return draw.Uint64()
}

// doOne does a drawn call on both.
func doOne(t *testing.T, draw *rand.Rand, d *flash.Device, m *model) {
	t.Helper()
	switch x := draw.Intn(100); {
	case x < 80:
		at, b := draw.Intn(m.sectors+2)-1, drawnBytes(draw)
		errs(t, "Write", d.Write(at, b), m.write(at, b))
	case x < 86:
		errs(t, "Sync", d.Sync(), m.sync())
	case x < 92:
		mask, torn := drawnBits(draw), drawnBits(draw)
		errs(t, "Crash", d.Crash(mask, torn), api.OK)
		m.crash(mask, torn)
	default:
		n := draw.Intn(30) - 5
		if n < 0 {
			errs(t, "Limit", d.Limit(n), api.ErrArg)
			return
		}
		errs(t, "Limit", d.Limit(n), api.OK)
		m.left = n
	}
}

func TestAsTheModel(t *testing.T) {
	for seed := range int64(60) {
		draw := rand.New(rand.NewSource(seed))
		m := &model{sectors: 1 + draw.Intn(6)}
		d := device(t, m.sectors)
		for range 300 {
			if draw.Intn(40) == 0 {
				c, mc := d.Copy(), m.copy()
				for range 20 {
					doOne(t, draw, c, mc)
				}
				agree(t, c, mc)
			}
			doOne(t, draw, d, m)
			agree(t, d, m)
			if t.Failed() {
				t.Fatalf("seed %d", seed)
			}
		}
	}
}

// Long runs without a Sync: each bit of a crash is of several writes.
func TestManyUnsureAsTheModel(t *testing.T) {
	draw := rand.New(rand.NewSource(8))
	for range 60 {
		m := &model{sectors: 1 + draw.Intn(100)}
		d := device(t, m.sectors)
		for range draw.Intn(400) {
			at, b := draw.Intn(m.sectors), drawnBytes(draw)
			errs(t, "Write", d.Write(at, b), m.write(at, b))
		}
		agree(t, d, m)
		mask, torn := drawnBits(draw), drawnBits(draw)
		errs(t, "Crash", d.Crash(mask, torn), api.OK)
		m.crash(mask, torn)
		agree(t, d, m)
	}
}

// The same calls, done again from the beginning, have the same answers.
func TestTheSameCallsHaveTheSameAnswers(t *testing.T) {
	run := func() *flash.Device {
		draw := rand.New(rand.NewSource(3))
		m := &model{sectors: 5}
		d := device(t, 5)
		for range 500 {
			doOne(t, draw, d, m)
		}
		d.Crash(5, 2)
		return d
	}
	one, two := run(), run()
	for at := range 5 {
		a, ae := one.Read(at)
		b, be := two.Read(at)
		if ae != be || !bytes.Equal(a, b) {
			t.Errorf("Read(%d): %v, %d and %v, %d", at, a, ae, b, be)
		}
	}
}
