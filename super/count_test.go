package super_test

import (
	"bytes"
	"slices"
	"testing"

	"gazetteer/api"
	"gazetteer/flash"
	"gazetteer/super"
)

// some is a block of this Gen, its other numbers hanging on where it lies.
func some(gen, at int) super.Block {
	return super.Block{Gen: gen, Epoch: 100 + at, First: 200 + at, From: 300 + at, Count: 400 + at}
}

// The greater Gen counts, of those that lie where they may.
func TestWhichBlockCounts(t *testing.T) {
	gens := []int{0, 1, 2, 3, 4, 5, 127, 128, 255, 256, 257, 65535, 65536, 1<<32 - 1, 1 << 32, 1 << 55, greatest - 1, greatest}
	for _, zero := range gens {
		for _, one := range gens {
			d := device(t, 2)
			put(t, d, 0, bytesOf(some(zero, 0)))
			put(t, d, 1, bytesOf(some(one, 1)))
			countsOf(t, d, zero, one)
			tear(t, d, 1)
			countsOf(t, d, zero, -1)
			put(t, d, 1, bytesOf(some(one, 1)))
			tear(t, d, 0)
			countsOf(t, d, -1, one)
		}
	}
}

// countsOf holds a device, whose sectors 0 and 1 have blocks of these Gens (-1:
// none), against the block that counts.
func countsOf(t *testing.T, d *flash.Device, zero, one int) {
	t.Helper()
	inZero := zero >= 0 && zero%2 == 0
	inOne := one >= 0 && one%2 == 1
	if !inZero && !inOne {
		fails(t, d, api.ErrNone)
		return
	}
	want := some(zero, 0)
	if !inZero || inOne && one > zero {
		want = some(one, 1)
	}
	loads(t, d, want)
}

// Behind whatever counts, Save writes the next one, and that counts.
func TestSaveBehindWhatLiesThere(t *testing.T) {
	for zero := -1; zero < 9; zero++ {
		for one := -1; one < 9; one++ {
			d := device(t, 2)
			for at, gen := range []int{zero, one} {
				if gen >= 0 {
					put(t, d, at, bytesOf(some(gen, at)))
				} else {
					tear(t, d, at)
				}
			}
			next := 0
			if b, e := super.Load(d); e == api.OK {
				next = b.Gen + 1
			}
			for gen := range 12 {
				if gen != next {
					refuses(t, d, some(gen, 7), api.ErrRange)
				}
			}
			for gen := next; gen < next+4; gen++ {
				saves(t, d, some(gen, 7))
			}
		}
	}
}

// A head that differs in one number, or in several, is of no block.
func TestHeadsOfOthers(t *testing.T) {
	for at := range 14 {
		for x := range 256 {
			s := bytesOf(first)
			was := s[at]
			s[at] = byte(x)
			d := device(t, 2)
			put(t, d, 0, s)
			if byte(x) == was {
				loads(t, d, first)
				continue
			}
			fails(t, d, api.ErrNone)
			refuses(t, d, second, api.ErrRange)
			saves(t, d, first)
		}
	}
}

// What lies there is not taken, even if its Gen would be greater.
func TestOthersOfGreaterGen(t *testing.T) {
	good := some(2, 0)
	bad := some(5, 1)
	for _, change := range []func(s []byte){
		func(s []byte) { s[0] = 2 },
		func(s []byte) { s[4] = 1 },
		func(s []byte) { s[1] = 1 },
		func(s []byte) { s[11] = 1 },
		func(s []byte) { s[5] = 1 },
		func(s []byte) { s[13] = 2 },
		func(s []byte) { s[12], s[13] = 1, 2 },
		func(s []byte) { s[15] = 36 },
		func(s []byte) { s[14] = 1 },
		func(s []byte) { s[511] = 1 },
		func(s []byte) { s[51] = 1 },
		func(s []byte) { s[22] = 4 },
		func(s []byte) { clear(s) },
	} {
		d := device(t, 2)
		put(t, d, 0, bytesOf(good))
		put(t, d, 1, bytesOf(bad))
		loads(t, d, bad)
		s := bytesOf(bad)
		change(s)
		put(t, d, 1, s)
		loads(t, d, good)
		refuses(t, d, some(6, 0), api.ErrRange)
		saves(t, d, some(3, 1))
	}
}

// The data is just 35 bytes.
func TestDataOfOtherSizes(t *testing.T) {
	data := dataOf(some(4, 0))
	for size := 0; size <= 496; size++ {
		for _, fill := range []byte{0, 9} {
			long := append(slices.Clone(data), bytes.Repeat([]byte{fill}, 500)...)
			d := device(t, 2)
			put(t, d, 0, with(long[:size]))
			if size == 35 {
				loads(t, d, some(4, 0))
			} else {
				fails(t, d, api.ErrNone)
			}
		}
	}
}

// Bytes that no sector has say nothing.
func TestBytesOfNoSector(t *testing.T) {
	for x := range 256 {
		d := device(t, 2)
		for at := range 2 {
			put(t, d, at, bytes.Repeat([]byte{byte(x)}, 512))
		}
		fails(t, d, api.ErrNone)
		saves(t, d, first)
	}
	for at := 51; at < 512; at++ {
		s := bytesOf(first)
		s[at] = byte(at%255) + 1
		d := device(t, 2)
		put(t, d, 0, s)
		fails(t, d, api.ErrNone)
	}
}

// What is read is what was written last, sure or not.
func TestUnsureBlocks(t *testing.T) {
	d := device(t, 2)
	saves(t, d, first)
	ok(t, "Write", d.Write(1, bytesOf(second)))
	loads(t, d, second)
	refuses(t, d, second, api.ErrRange)
	c := d.Copy()
	ok(t, "Crash", c.Crash(0, 0))
	loads(t, c, first)
	ok(t, "Crash", d.Crash(1, 0))
	loads(t, d, second)
	// What was unsure is sure when the next block is written.
	ok(t, "Write", c.Write(1, bytesOf(second)))
	ok(t, "Limit", c.Limit(2))
	errs(t, "Save", super.Save(c, some(2, 0)), api.ErrDown)
	ok(t, "Crash", c.Crash(0, 0))
	loads(t, c, second)
	ok(t, "Write", d.Write(1, nil))
	loads(t, d, first)
	saves(t, d, some(1, 5))
}
