package sector_test

import (
	"bytes"
	"slices"
	"testing"

	"gazetteer/api"
	"gazetteer/sector"
)

// spoil writes over bytes, and their spare room.
func spoil(b []byte) {
	b = b[:cap(b)]
	for i := range b {
		b[i] = 77
	}
}

func TestSealLeavesWhatItIsHanded(t *testing.T) {
	for _, h := range []sector.Head{plain, {}} {
		for _, size := range []int{0, 1, 255, most - 1, most, most + 1, 512} {
			room := bytes.Repeat([]byte{5}, 2048)
			sector.Seal(h, room[:size])
			if !bytes.Equal(room, bytes.Repeat([]byte{5}, 2048)) {
				t.Errorf("Seal of %d bytes changed them, or their spare room", size)
			}
		}
	}
}

func TestSealAnswersNewMemory(t *testing.T) {
	for _, size := range []int{0, 1, 255, most - 1, most} {
		room := append(some(size), make([]byte, 1024)...)
		was := slices.Clone(room)
		one := sealed(t, plain, room[:size])
		two := sealed(t, plain, room[:size])
		want := slices.Clone(two)
		spoil(one)
		if !bytes.Equal(room, was) {
			t.Errorf("Seal of %d bytes shares them", size)
		}
		if !bytes.Equal(two, want) {
			t.Errorf("Seal of %d bytes shares its answers", size)
		}
		spoil(room)
		if !bytes.Equal(two, want) {
			t.Errorf("Seal of %d bytes keeps them", size)
		}
	}
}

func TestOpenLeavesWhatItIsHanded(t *testing.T) {
	for _, size := range []int{0, 1, 255, most - 1, most} {
		room := append(sealed(t, plain, some(size)), bytes.Repeat([]byte{5}, 1024)...)
		was := slices.Clone(room)
		for _, n := range []int{0, 15, 16, 511, 512, 513, 1536} {
			sector.Open(room[:n])
			if !bytes.Equal(room, was) {
				t.Errorf("Open of %d bytes changed them, or their spare room", n)
			}
		}
	}
}

func TestOpenAnswersNewMemory(t *testing.T) {
	for _, size := range []int{0, 1, 255, most - 1, most} {
		room := append(sealed(t, plain, some(size)), make([]byte, 1024)...)
		was := slices.Clone(room)
		_, one, _ := sector.Open(room[:512])
		_, two, _ := sector.Open(room[:512])
		spoil(one)
		if !bytes.Equal(room, was) {
			t.Errorf("Open's answer of %d bytes shares what was handed in", size)
		}
		if !bytes.Equal(two, some(size)) {
			t.Errorf("Open shares its answers of %d bytes", size)
		}
		spoil(room)
		if !bytes.Equal(two, some(size)) {
			t.Errorf("Open's answer of %d bytes keeps what was handed in", size)
		}
	}
}

// Calls hang on nothing that was called ahead of them.
func TestTheSameCallsHaveTheSameAnswers(t *testing.T) {
	want := full(9, 0, 0, 0, 8, 0, 0, 0, 0, 0, 0, 7, 2, 6, 0, 2, 1, 2)
	for range 3 {
		seals(t, plain, []byte{1, 2}, want)
		refuses(t, sector.Head{}, nil, api.ErrRange)
		refuses(t, plain, some(most+1), api.ErrLarge)
		fails(t, nil, api.ErrShort)
		fails(t, full(), api.ErrText)
	}
}
