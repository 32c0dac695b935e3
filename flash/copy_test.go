package flash_test

import (
	"bytes"
	"math"
	"testing"

	"gazetteer/api"
	"gazetteer/flash"
)

// varied is a device with something of each kind: sector 0 sure, 1 torn, 2 and 3
// unsure, 3 written over what is sure.
func varied(t *testing.T) *flash.Device {
	d := device(t, 5)
	ok(t, "Write", d.Write(0, []byte{10}))
	ok(t, "Write", d.Write(3, []byte{11}))
	ok(t, "Sync", d.Sync())
	ok(t, "Write", d.Write(1, []byte{12}))
	ok(t, "Crash", d.Crash(0, 1))
	ok(t, "Write", d.Write(2, []byte{13}))
	ok(t, "Write", d.Write(3, []byte{14}))
	return d
}

// variedIs holds a device against varied's.
func variedIs(t *testing.T, d *flash.Device) {
	t.Helper()
	if d.Len() != 5 || d.Down() {
		t.Errorf("Len %d, Down %t", d.Len(), d.Down())
	}
	reads(t, d, 0, 10)
	fails(t, d, 1, api.ErrTorn)
	reads(t, d, 2, 13)
	reads(t, d, 3, 14)
	reads(t, d, 4)
	pending(t, d, [2]int{2, 13}, [2]int{3, 14})
}

// changes are ways to make a device another one.
func changes() []func(*flash.Device) {
	return []func(*flash.Device){
		func(d *flash.Device) {},
		func(d *flash.Device) { d.Write(4, []byte{99}) },
		func(d *flash.Device) { d.Write(2, []byte{99}); d.Write(0, []byte{98}) },
		func(d *flash.Device) { d.Sync() },
		func(d *flash.Device) { d.Crash(0, 0) },
		func(d *flash.Device) { d.Crash(3, 0) },
		func(d *flash.Device) { d.Crash(0, 3) },
		func(d *flash.Device) { d.Limit(1); d.Write(0, []byte{97}) },
		func(d *flash.Device) { d.Limit(1) },
		func(d *flash.Device) {
			for at := range 5 {
				d.Write(at, []byte{96})
			}
			d.Sync()
			for at := range 5 {
				d.Write(at, []byte{95})
			}
			d.Crash(0, math.MaxUint64)
		},
	}
}

func TestCopyDoesTheSame(t *testing.T) {
	variedIs(t, varied(t))
	variedIs(t, varied(t).Copy())
	variedIs(t, varied(t).Copy().Copy())
	c := varied(t).Copy()
	ok(t, "Crash", c.Crash(1, 0))
	reads(t, c, 0, 10)
	fails(t, c, 1, api.ErrTorn)
	reads(t, c, 2, 13)
	reads(t, c, 3, 11)
	c = varied(t).Copy()
	ok(t, "Crash", c.Crash(0, 2))
	reads(t, c, 2)
	fails(t, c, 3, api.ErrTorn)
}

func TestCopySharesNothing(t *testing.T) {
	for i, change := range changes() {
		d := varied(t)
		c := d.Copy()
		change(d)
		variedIs(t, c)
		// The copy's own past is its own as well.
		ok(t, "Crash", c.Crash(0, 0))
		reads(t, c, 0, 10)
		fails(t, c, 1, api.ErrTorn)
		reads(t, c, 2)
		reads(t, c, 3, 11)
		reads(t, c, 4)

		d = varied(t)
		c = d.Copy()
		change(c)
		variedIs(t, d)
		ok(t, "Crash", d.Crash(2, 0))
		reads(t, d, 0, 10)
		fails(t, d, 1, api.ErrTorn)
		reads(t, d, 2)
		reads(t, d, 3, 14)
		reads(t, d, 4)
		if t.Failed() {
			t.Fatalf("change %d", i)
		}
	}
}

// Both write on, in turns: neither has what the other wrote, in spare room either.
func TestCopiesWriteOn(t *testing.T) {
	for ahead := range 20 {
		d := device(t, 2)
		for range ahead {
			ok(t, "Write", d.Write(0, []byte{1}))
		}
		c := d.Copy()
		ok(t, "Write", d.Write(1, []byte{2}))
		ok(t, "Write", c.Write(1, []byte{3}))
		ok(t, "Write", d.Write(0, []byte{4}))
		for _, p := range []struct {
			d    *flash.Device
			last byte
		}{{d, 2}, {c, 3}} {
			if u := p.d.Unsure(); !bytes.Equal(u[ahead].Data, full(p.last)) {
				t.Errorf("behind %d: %d, not %d", ahead, u[ahead].Data[0], p.last)
			}
			ok(t, "Crash", p.d.Crash(1<<ahead, 0))
			reads(t, p.d, 1, p.last)
		}
	}
}

func TestCopyOfLimit(t *testing.T) {
	d := device(t, 1)
	ok(t, "Limit", d.Limit(3))
	ok(t, "Write", d.Write(0, []byte{1}))
	c := d.Copy()
	for _, x := range []*flash.Device{c, d} {
		ok(t, "Sync", x.Sync())
		if x.Down() {
			t.Error("down")
		}
		errs(t, "Write", x.Write(0, []byte{2}), api.ErrDown)
	}
	c = d.Copy()
	if !c.Down() {
		t.Error("a copy has power")
	}
	fails(t, c, 0, api.ErrDown)
	errs(t, "Write", c.Write(0, nil), api.ErrDown)
	errs(t, "Sync", c.Sync(), api.ErrDown)
	ok(t, "Crash", c.Crash(0, 0))
	reads(t, c, 0, 1)
	if !d.Down() {
		t.Error("a copy's crash brought the power back")
	}
}

// spoil writes over bytes, and their spare room.
func spoil(b []byte) {
	b = b[:cap(b)]
	for i := range b {
		b[i] = 77
	}
}

func TestWriteLeavesWhatItIsHanded(t *testing.T) {
	for _, size := range []int{0, 1, 511, 512, 513} {
		room := bytes.Repeat([]byte{5}, 1024)
		d := device(t, 1)
		d.Write(0, room[:size])
		d.Sync()
		d.Write(0, room[:size])
		d.Crash(0, 1)
		if !bytes.Equal(room, bytes.Repeat([]byte{5}, 1024)) {
			t.Errorf("Write of %d bytes changed them, or their spare room", size)
		}
	}
}

func TestWriteKeepsNothing(t *testing.T) {
	for _, size := range []int{0, 1, 511, 512} {
		d := device(t, 2)
		b := append(make([]byte, 0, 1024), some(3, size)...)
		want := some(3, size)
		ok(t, "Write", d.Write(1, b))
		spoil(b)
		reads(t, d, 1, want...)
		if u := d.Unsure(); !bytes.Equal(u[0].Data, full(want...)) {
			t.Errorf("Unsure: %v", u)
		}
		ok(t, "Sync", d.Sync())
		reads(t, d, 1, want...)
		ok(t, "Write", d.Write(0, b[:size]))
		spoil(b[:0])
		ok(t, "Crash", d.Crash(1, 0))
		reads(t, d, 0, bytes.Repeat([]byte{77}, size)...)
	}
}

func TestReadAnswersNewMemory(t *testing.T) {
	d := varied(t)
	c := d.Copy()
	for at := range 5 {
		one, _ := d.Read(at)
		two, _ := d.Read(at)
		want := string(two)
		spoil(one)
		if string(two) != want {
			t.Errorf("Read(%d) shares its answers", at)
		}
		spoil(two)
	}
	variedIs(t, d)
	variedIs(t, c)
	ok(t, "Crash", d.Crash(1, 0))
	reads(t, d, 0, 10)
	reads(t, d, 2, 13)
	reads(t, d, 3, 11)
}

func TestUnsureAnswersNewMemory(t *testing.T) {
	d := varied(t)
	c := d.Copy()
	one, two := d.Unsure(), d.Unsure()
	want := string(two[0].Data) + string(two[1].Data)
	read, _ := d.Read(2)
	for i := range one {
		spoil(one[i].Data)
	}
	one = one[:cap(one)]
	for i := range one {
		one[i] = api.Write{At: 4}
	}
	if string(two[0].Data)+string(two[1].Data) != want || two[0].At != 2 || two[1].At != 3 {
		t.Errorf("Unsure shares its answers: %v", two)
	}
	if !bytes.Equal(read, full(13)) {
		t.Error("Unsure shares what Read answered")
	}
	// Nor do two of one answer.
	spoil(two[0].Data)
	if !bytes.Equal(two[1].Data, full(14)) {
		t.Error("two writes share their bytes")
	}
	variedIs(t, d)
	variedIs(t, c)
	ok(t, "Crash", d.Crash(3, 0))
	reads(t, d, 2, 13)
	reads(t, d, 3, 14)
}

// What was answered is not changed by what is done behind it.
func TestAnswersStay(t *testing.T) {
	d := varied(t)
	read, _ := d.Read(3)
	list := d.Unsure()
	for _, change := range changes() {
		change(d)
	}
	if !bytes.Equal(read, full(14)) {
		t.Errorf("Read's answer is %v now", read)
	}
	if len(list) != 2 || list[0].At != 2 || list[1].At != 3 || !bytes.Equal(list[0].Data, full(13)) || !bytes.Equal(list[1].Data, full(14)) {
		t.Errorf("Unsure's answer is %v now", list)
	}
}
