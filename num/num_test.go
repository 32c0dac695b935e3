package num_test

import (
	"bytes"
	"math"
	"testing"

	"gazetteer/api"
	"gazetteer/num"
)

// greatest has, by size, the greatest number that fits; written out, so that
// the tests do not count as the package does.
var greatest = [8]int{
	1: 0xff,
	2: 0xffff,
	3: 0xffffff,
	4: 0xffffffff,
	5: 0xffffffffff,
	6: 0xffffffffffff,
	7: 0xffffffffffffff,
}

// noSizes are sizes that no number has; some come round to one of 1 to 7 if
// they are multiplied by 8 or cut to fewer bits.
var noSizes = []int{
	0, 8, 9, 16, 64, 255, 256, 257, 1 << 32, 1<<32 + 1, 1 << 61, 1<<61 + 1,
	math.MaxInt - 1, math.MaxInt,
	-1, -2, -7, -8, -255, -1<<61 + 1, math.MinInt + 1, math.MinInt,
}

func TestFitsFromNoughtToTheGreatest(t *testing.T) {
	for size := 1; size <= 7; size++ {
		for _, n := range []int{0, 1, 127, 128, greatest[size-1] + 1, greatest[size] - 1, greatest[size]} {
			if !num.Fits(n, size) {
				t.Errorf("Fits(%d, %d) is false", n, size)
			}
		}
		for _, n := range []int{greatest[size] + 1, greatest[size] + 2, 1 << 56, 1 << 62, math.MaxInt} {
			if num.Fits(n, size) {
				t.Errorf("Fits(%d, %d) is true, but it is too great", n, size)
			}
		}
		for _, n := range []int{-1, -2, -128, -256, -greatest[size], math.MinInt + 1, math.MinInt} {
			if num.Fits(n, size) {
				t.Errorf("Fits(%d, %d) is true, but it is below 0", n, size)
			}
		}
	}
}

func TestFitsNoOtherSize(t *testing.T) {
	for _, size := range noSizes {
		for _, n := range []int{0, 1, 255, 256, -1, math.MaxInt, math.MinInt} {
			if num.Fits(n, size) {
				t.Errorf("Fits(%d, %d) is true", n, size)
			}
		}
	}
}

func TestPutBehindBytes(t *testing.T) {
	cases := []struct {
		b       []byte
		n, size int
		want    []byte
	}{
		{nil, 258, 2, []byte{1, 2}},
		{[]byte{}, 258, 2, []byte{1, 2}},
		{[]byte{9, 8}, 258, 2, []byte{9, 8, 1, 2}},
		{[]byte{9}, 0, 1, []byte{9, 0}},
		{nil, 0, 7, []byte{0, 0, 0, 0, 0, 0, 0}},
		{nil, 1, 3, []byte{0, 0, 1}},
		{nil, 127, 1, []byte{127}},
		{nil, 128, 1, []byte{128}},
		{nil, 255, 1, []byte{255}},
		{nil, 256, 2, []byte{1, 0}},
		{nil, 0x010203, 3, []byte{1, 2, 3}},
		{nil, 0x01020304, 4, []byte{1, 2, 3, 4}},
		{nil, 0xfffefdfc, 4, []byte{0xff, 0xfe, 0xfd, 0xfc}},
		{nil, 0x0102030405, 5, []byte{1, 2, 3, 4, 5}},
		{nil, 0x010203040506, 6, []byte{1, 2, 3, 4, 5, 6}},
		{[]byte{0}, 0x01020304050607, 7, []byte{0, 1, 2, 3, 4, 5, 6, 7}},
		{nil, 0x80000000000000, 7, []byte{0x80, 0, 0, 0, 0, 0, 0}},
	}
	for _, c := range cases {
		if got := num.Put(c.b, c.n, c.size); !bytes.Equal(got, c.want) {
			t.Errorf("Put(%v, %d, %d) is %v, not %v", c.b, c.n, c.size, got, c.want)
		}
	}
	for size := 1; size <= 7; size++ {
		want := append([]byte{5}, bytes.Repeat([]byte{255}, size)...)
		if got := num.Put([]byte{5}, greatest[size], size); !bytes.Equal(got, want) {
			t.Errorf("Put of the greatest of %d bytes is %v", size, got)
		}
	}
}

func TestPutOfWhatDoesNotFit(t *testing.T) {
	lists := [][]byte{nil, {}, {0}, {1, 2, 3}}
	check := func(n, size int) {
		for _, b := range lists {
			if got := num.Put(b, n, size); !bytes.Equal(got, b) {
				t.Errorf("Put(%v, %d, %d) is %v", b, n, size, got)
			}
		}
	}
	for size := 1; size <= 7; size++ {
		for _, n := range []int{greatest[size] + 1, math.MaxInt, -1, -256, math.MinInt} {
			check(n, size)
		}
	}
	for _, size := range noSizes {
		for _, n := range []int{0, 1, 255, -1, math.MaxInt, math.MinInt} {
			check(n, size)
		}
	}
}

func TestGetFromAPlace(t *testing.T) {
	b := []byte{1, 2, 3, 4, 5, 6, 7, 0xff, 0, 0x80}
	cases := []struct{ at, size, want int }{
		{0, 1, 1}, {1, 2, 515}, {0, 3, 0x010203}, {0, 4, 0x01020304},
		{0, 5, 0x0102030405}, {0, 6, 0x010203040506}, {0, 7, 0x01020304050607},
		{3, 7, 0x04050607ff0080}, {7, 1, 255}, {7, 2, 0xff00}, {7, 3, 0xff0080},
		{8, 1, 0}, {8, 2, 0x80}, {9, 1, 0x80},
	}
	for _, c := range cases {
		if n, e := num.Get(b, c.at, c.size); n != c.want || e != api.OK {
			t.Errorf("Get(b, %d, %d) is %d, %d, not %d", c.at, c.size, n, e, c.want)
		}
	}
}

func TestGetOfTheGreatest(t *testing.T) {
	b := bytes.Repeat([]byte{255}, 9)
	for size := 1; size <= 7; size++ {
		for at := 0; at+size <= len(b); at++ {
			if n, e := num.Get(b, at, size); n != greatest[size] || e != api.OK {
				t.Errorf("Get(b, %d, %d) is %d, %d", at, size, n, e)
			}
		}
	}
}

func TestGetTooShort(t *testing.T) {
	for have := 0; have <= 9; have++ {
		b := bytes.Repeat([]byte{1}, have)
		for size := 1; size <= 7; size++ {
			for at := 0; at <= have+1; at++ {
				want := api.OK
				if at+size > have {
					want = api.ErrShort
				}
				n, e := num.Get(b, at, size)
				if e != want || e != api.OK && n != 0 {
					t.Errorf("Get of %d bytes, %d, %d: %d, %d, not %d", have, at, size, n, e, want)
				}
			}
			for _, at := range []int{1 << 32, 1 << 62, math.MaxInt - 8, math.MaxInt - 1, math.MaxInt} {
				if n, e := num.Get(b, at, size); n != 0 || e != api.ErrShort {
					t.Errorf("Get of %d bytes, %d, %d: %d, %d", have, at, size, n, e)
				}
			}
		}
	}
}

func TestGetOfNoBytes(t *testing.T) {
	for _, b := range [][]byte{nil, {}} {
		for size := 1; size <= 7; size++ {
			if n, e := num.Get(b, 0, size); n != 0 || e != api.ErrShort {
				t.Errorf("Get(%v, 0, %d): %d, %d", b, size, n, e)
			}
		}
	}
}

func TestGetDoesNotReadSpareRoom(t *testing.T) {
	room := []byte{1, 2, 3, 4, 5, 6, 7, 8}
	for size := 2; size <= 7; size++ {
		if n, e := num.Get(room[:size-1], 0, size); n != 0 || e != api.ErrShort {
			t.Errorf("Get of %d bytes with spare room, 0, %d: %d, %d", size-1, size, n, e)
		}
	}
	if n, e := num.Get(room[:3], 3, 1); n != 0 || e != api.ErrShort {
		t.Errorf("Get at the end of the bytes: %d, %d", n, e)
	}
}

// ErrArg comes ahead of ErrShort: so the lists here are too short as well.
func TestGetOfNoArgument(t *testing.T) {
	lists := [][]byte{nil, {}, {1}, bytes.Repeat([]byte{1}, 300)}
	for _, b := range lists {
		for _, size := range noSizes {
			for _, at := range []int{0, 1, 299, 300, 301, -1, math.MaxInt, math.MinInt} {
				if n, e := num.Get(b, at, size); n != 0 || e != api.ErrArg {
					t.Errorf("Get of %d bytes, %d, %d: %d, %d", len(b), at, size, n, e)
				}
			}
		}
		for size := 1; size <= 7; size++ {
			for _, at := range []int{-1, -2, -size, -300, math.MinInt + 1, math.MinInt} {
				if n, e := num.Get(b, at, size); n != 0 || e != api.ErrArg {
					t.Errorf("Get of %d bytes, %d, %d: %d, %d", len(b), at, size, n, e)
				}
			}
		}
	}
}

func TestGetOfPut(t *testing.T) {
	for size := 1; size <= 7; size++ {
		for n := greatest[size]; n > 0; n = n*2/3 - 1 {
			if got, e := num.Get(num.Put([]byte{3}, n, size), 1, size); got != n || e != api.OK {
				t.Errorf("Get of Put of %d, %d is %d, %d", n, size, got, e)
			}
		}
	}
}

// puts are calls of Put that append, and such that leave the bytes as they are.
var puts = []struct{ n, size int }{
	{258, 2}, {0, 1}, {1, 7}, {256, 1}, {-1, 2}, {1, 0}, {1, 8}, {1, -1},
}

func TestPutLeavesWhatItIsHanded(t *testing.T) {
	for _, p := range puts {
		for have := 0; have <= 3; have++ {
			room := bytes.Repeat([]byte{77}, 16)
			num.Put(room[:have], p.n, p.size)
			if !bytes.Equal(room, bytes.Repeat([]byte{77}, 16)) {
				t.Errorf("Put(%d bytes, %d, %d) changed them, or their spare room: %v", have, p.n, p.size, room)
			}
		}
	}
}

// The answers' spare room is written to as well: none of it may be shared.
func TestPutAnswersNewMemory(t *testing.T) {
	for _, p := range puts {
		for have := 0; have <= 3; have++ {
			room := bytes.Repeat([]byte{77}, 16)
			one := num.Put(room[:have], p.n, p.size)
			two := num.Put(room[:have], p.n, p.size)
			want := append([]byte(nil), two...)
			fill(one, 1)
			if !bytes.Equal(room, bytes.Repeat([]byte{77}, 16)) {
				t.Errorf("Put(%d bytes, %d, %d) shares what it was handed", have, p.n, p.size)
			}
			if !bytes.Equal(two, want) {
				t.Errorf("Put(%d bytes, %d, %d) shares its answers", have, p.n, p.size)
			}
			fill(room, 2)
			if !bytes.Equal(two, want) {
				t.Errorf("Put(%d bytes, %d, %d) keeps what it was handed", have, p.n, p.size)
			}
		}
	}
}

func fill(b []byte, x byte) {
	b = b[:cap(b)]
	for i := range b {
		b[i] = x
	}
}

func TestGetLeavesWhatItIsHanded(t *testing.T) {
	room := []byte{1, 2, 3, 4, 5, 6, 7, 8}
	for at := -1; at <= 5; at++ {
		for size := 0; size <= 8; size++ {
			num.Get(room[:4], at, size)
		}
	}
	if !bytes.Equal(room, []byte{1, 2, 3, 4, 5, 6, 7, 8}) {
		t.Errorf("Get changed what it was handed: %v", room)
	}
}

// Calls hang on nothing that was called ahead of them.
func TestTheSameCallsHaveTheSameAnswers(t *testing.T) {
	for round := 0; round < 3; round++ {
		if b := num.Put([]byte{9}, 258, 2); !bytes.Equal(b, []byte{9, 1, 2}) {
			t.Errorf("round %d: Put is %v", round, b)
		}
		if n, e := num.Get([]byte{1, 2, 3}, 1, 2); n != 515 || e != api.OK {
			t.Errorf("round %d: Get is %d, %d", round, n, e)
		}
		num.Put(nil, -1, 99)
		num.Get(nil, -1, 99)
	}
}
