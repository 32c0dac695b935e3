package rdata_test

import (
	"bytes"
	"fmt"
	"math"
	"math/rand"
	"slices"
	"strings"
	"testing"

	"gazetteer/api"
	"gazetteer/rdata"
	"gazetteer/wname"
)

// got is an answer of Get.
type got struct {
	d api.Data
	e api.Errno
}

func get(b string, at, size, kind int) got {
	d, e := rdata.Get([]byte(b), at, size, kind)
	return got{d, e}
}

// refused checks that Get answers an error and nothing beside it.
func refused(t *testing.T, b string, at, size, kind int, want api.Errno) {
	t.Helper()
	if g := get(b, at, size, kind); g.e != want || !alike(g.d, api.Data{}) {
		t.Errorf("Get(%.300q, %d, %d, %d): %s, %d, not %d", b, at, size, kind, tell(g.d), g.e, want)
	}
}

func TestGet(t *testing.T) {
	for _, c := range samples() {
		if g := get(c.want, 0, len(c.want), c.kind); g.e != api.OK || !alike(g.d, c.d) {
			t.Errorf("Get(%.300q) of %d: %s, %d, not %s", c.want, c.kind, tell(g.d), g.e, tell(c.d))
		}
	}
}

// Data that has no pointers is read wherever it stands.
func TestGetFromAPlace(t *testing.T) {
	for _, c := range samples() {
		if c.kind == api.SOA && strings.Contains(c.want, "\xc0") {
			continue
		}
		for _, ahead := range []int{1, 2, 300} {
			b := strings.Repeat("\x40", ahead) + c.want + "\x40\x40"
			if g := get(b, ahead, len(c.want), c.kind); g.e != api.OK || !alike(g.d, c.d) {
				t.Errorf("Get(%.400q, %d) of %d: %s, %d, not %s", b, ahead, c.kind, tell(g.d), g.e, tell(c.d))
			}
		}
	}
}

// Bytes of a type without known parts may end anywhere, and texts behind each
// one of them; all other data is short wherever it is cut.
func TestGetOfLessBytes(t *testing.T) {
	for _, c := range samples() {
		if len(c.want) > 400 {
			continue
		}
		for size := range len(c.want) {
			switch {
			case c.kind == api.TXT:
			case !slices.Contains(named, c.kind):
				want := api.Data{Bytes: c.d.Bytes[:size]}
				if g := get(c.want, 0, size, c.kind); g.e != api.OK || !alike(g.d, want) {
					t.Errorf("Get(%q, 0, %d, %d): %v, %d", c.want, size, c.kind, g.d, g.e)
				}
			default:
				refused(t, c.want, 0, size, c.kind, api.ErrShort)
				refused(t, c.want[:size], 0, size, c.kind, api.ErrShort)
			}
		}
	}
}

func TestGetOfMoreBytes(t *testing.T) {
	for _, c := range samples() {
		if c.kind == api.TXT || !slices.Contains(named, c.kind) {
			continue
		}
		for _, more := range []string{"\x00", "\x40", "\xff\xff", strings.Repeat("\x01", 300)} {
			refused(t, c.want+more, 0, len(c.want)+len(more), c.kind, api.ErrExtra)
			refused(t, c.want+more, 0, len(c.want)+1, c.kind, api.ErrExtra)
		}
	}
}

// ErrArg comes ahead of ErrShort: so the lists here are too short as well.
func TestGetOfNoArgument(t *testing.T) {
	below := []int{-1, -2, -4, -65536, math.MinInt, math.MinInt + 1}
	sizes := []int{0, 1, 4, 300, 301, math.MaxInt, -1}
	for _, b := range []string{"", "\x00", "abcd", strings.Repeat("\x00", 300)} {
		for _, at := range below {
			for _, size := range sizes {
				for _, kind := range append([]int{99}, named...) {
					refused(t, b, at, size, kind, api.ErrArg)
					refused(t, b, size, at, kind, api.ErrArg)
				}
			}
		}
		for _, kind := range noKinds {
			for _, size := range sizes {
				refused(t, b, 0, size, kind, api.ErrArg)
				refused(t, b, size, 0, kind, api.ErrArg)
				refused(t, b, size, size, kind, api.ErrArg)
			}
		}
	}
	if d, e := rdata.Get(nil, 0, 0, 0); e != api.ErrArg || !alike(d, api.Data{}) {
		t.Errorf("Get(nil, 0, 0, 0): %v, %d", d, e)
	}
}

func TestGetBehindTheEnd(t *testing.T) {
	for _, have := range []int{0, 1, 4, 16, 30} {
		b := strings.Repeat("\x00", have)
		for _, kind := range append([]int{99, 65535}, named...) {
			for _, place := range [][2]int{
				{0, have + 1}, {have, 1}, {have + 1, 0}, {have + 1, 1}, {1, have}, {have / 2, have + 1},
				{math.MaxInt, 0}, {math.MaxInt, 1}, {0, math.MaxInt}, {1, math.MaxInt}, {have, math.MaxInt},
				{math.MaxInt, math.MaxInt}, {math.MaxInt - 3, 4}, {1 << 32, 0}, {0, 1 << 32}, {1 << 62, 1 << 62},
			} {
				refused(t, b, place[0], place[1], kind, api.ErrShort)
			}
		}
	}
	if g := get("abc", 3, 0, 99); g.e != api.OK || len(g.d.Bytes) != 0 {
		t.Errorf("no bytes at the end: %v, %d", g.d, g.e)
	}
	if g := get("", 0, 0, 99); g.e != api.OK || len(g.d.Bytes) != 0 {
		t.Errorf("no bytes of none: %v, %d", g.d, g.e)
	}
}

// Spare room behind b is not b.
func TestGetDoesNotReadSpareRoom(t *testing.T) {
	for _, c := range samples() {
		room := []byte(c.want)
		if len(room) == 0 {
			continue
		}
		if d, e := rdata.Get(room[:len(room)-1], 0, len(room), c.kind); e != api.ErrShort || !alike(d, api.Data{}) {
			t.Errorf("Get of %d from spare room: %s, %d", c.kind, tell(d), e)
		}
		if !strings.Contains(has(c.kind), "Host") {
			continue
		}
		if d, e := rdata.Get(room[:len(room)-1], 0, len(room)-1, c.kind); e != api.ErrShort || !alike(d, api.Data{}) {
			t.Errorf("Get of %d from spare room: %s, %d", c.kind, tell(d), e)
		}
	}
}

// Pointers lead to any place ahead, be it within the data or not.
func TestGetFollowsPointers(t *testing.T) {
	tail := strings.Repeat("\x00\x00\x00\x09", 5)
	nines := []int{9, 9, 9, 9, 9}
	for _, c := range []struct {
		b        string
		at, size int
		kind     int
		want     api.Data
	}{
		{"\x01a\x00\xc0\x00", 3, 2, api.NS, api.Data{Host: []string{"a"}}},
		{"\x01a\x00\xc0\x02", 3, 2, api.CNAME, api.Data{}},
		{"\x01a\x00\x01b\xc0\x00\x40", 3, 4, api.PTR, api.Data{Host: []string{"b", "a"}}},
		{"\x01a\x00\x00\x05\xc0\x00", 3, 4, api.MX, api.Data{Nums: []int{5}, Host: []string{"a"}}},
		{"\x01a\x00\x00\x01\x00\x02\x00\x03\x01b\xc0\x00", 3, 10, api.SRV, api.Data{Nums: []int{1, 2, 3}, Host: []string{"b", "a"}}},
		{"\x01a\x00\xc0\x00\x01m\xc0\x03" + tail, 3, 26, api.SOA, api.Data{Host: []string{"a"}, Mail: []string{"m", "a"}, Nums: nines}},
		{"\x01a\x00\xc0\x00" + tail, 0, 25, api.SOA, api.Data{Host: []string{"a"}, Mail: []string{"a"}, Nums: nines}},
		// To a number of the same data, as well.
		{"\x00\x01\xc0\x00", 0, 4, api.MX, api.Data{Nums: []int{1}}},
		{"\x01a\x00\x00\x00\x01\xc0\x00", 0, 8, api.SRV, api.Data{Nums: []int{353, 0, 1}, Host: []string{"a"}}},
	} {
		if g := get(c.b, c.at, c.size, c.kind); g.e != api.OK || !alike(g.d, c.want) {
			t.Errorf("Get(%q, %d, %d, %d): %v, %d, not %v", c.b, c.at, c.size, c.kind, g.d, g.e, c.want)
		}
	}
}

// Errors of names are those of chapter 3, ahead of ErrShort for the data's end.
func TestGetOfNamesThatAreNone(t *testing.T) {
	tail := strings.Repeat("\x00", 20)
	for _, kind := range []int{api.NS, api.CNAME, api.PTR, api.MX, api.SRV, api.SOA} {
		nums := map[int]string{api.MX: "\x00\x00", api.SRV: "\x00\x00\x00\x00\x00\x00"}[kind]
		for _, c := range []struct {
			name string
			want api.Errno
		}{
			{"\x40", api.ErrName},
			{"\x80\x00", api.ErrName},
			{"\xbf\x00", api.ErrName},
			{"\x01a\x7f\x00", api.ErrName},
			{strings.Repeat("\x01a", 128) + "\x00", api.ErrName},
			{"\xff\xff", api.ErrLoop},
			{"\x01a\xff\x00", api.ErrLoop},
			{"\xc0" + string([]byte{byte(len(nums))}), api.ErrLoop},
			{"\x01a\xc0" + string([]byte{byte(len(nums) + 1)}), api.ErrLoop},
		} {
			b := nums + c.name + tail
			for size := len(nums); size <= len(b); size++ {
				refused(t, b, 0, size, kind, c.want)
			}
			for size := range len(nums) {
				refused(t, b, 0, size, kind, api.ErrShort)
			}
		}
		for _, cut := range []string{"", "\x01", "\x02a", "\x01a", "\xc0", "\x3f" + label(62)} {
			refused(t, nums+cut, 0, len(nums+cut), kind, api.ErrShort)
			refused(t, nums+cut, 0, len(nums), kind, api.ErrShort)
		}
	}
}

// A name may go on behind the data's end only where a pointer leads ahead.
func TestGetOfNamesThatEndBehind(t *testing.T) {
	for _, c := range []struct {
		b        string
		at, size int
		want     api.Errno
	}{
		{"\x00", 0, 0, api.ErrShort},
		{"\x01a\x00", 0, 0, api.ErrShort},
		{"\x01a\x00", 0, 1, api.ErrShort},
		{"\x01a\x00", 0, 2, api.ErrShort},
		{"\x01a\x00", 0, 3, api.OK},
		{"\x01a\x00\x00", 0, 4, api.ErrExtra},
		{"\x00\xc0\x00", 1, 0, api.ErrShort},
		{"\x00\xc0\x00", 1, 1, api.ErrShort},
		{"\x00\xc0\x00", 1, 2, api.OK},
		{"\x01a\x01b\x00\xc0\x00", 5, 2, api.OK},
		{"\x01a\x01b\x00\x01c\xc0\x00", 5, 3, api.ErrShort},
		{"\x01a\x01b\x00\x01c\xc0\x00", 5, 4, api.OK},
		{"\x01a\x01b\x00\x01c\xc0\x00\x00", 5, 5, api.ErrExtra},
	} {
		if g := get(c.b, c.at, c.size, api.NS); g.e != c.want {
			t.Errorf("Get(%q, %d, %d, NS): %v, %d, not %d", c.b, c.at, c.size, g.d, g.e, c.want)
		}
	}
}

// The parts are read one by one: the first one that is wrong tells its error.
func TestGetPartByPart(t *testing.T) {
	for _, c := range []struct {
		b    string
		kind int
		want api.Errno
	}{
		{"\x00", api.MX, api.ErrShort},
		{"\x40", api.MX, api.ErrShort},
		{"\x40\x40\x40", api.MX, api.ErrName},
		{"\x40\x40\x40\x40\x40", api.SRV, api.ErrShort},
		{"\x40\x40\x40\x40\x40\x40\x40", api.SRV, api.ErrName},
		{"\x40\x40\x40\x40\x40\x40\xc0\x06", api.SRV, api.ErrLoop},
		{"\x40\xff\xff", api.SOA, api.ErrName},
		{"\xff\xff\x40", api.SOA, api.ErrLoop},
		{"\x00\x40", api.SOA, api.ErrName},
		{"\x00\xff\xff", api.SOA, api.ErrLoop},
		{"\x00", api.SOA, api.ErrShort},
		{"\x00\x00", api.SOA, api.ErrShort},
		{"\x00\x00\x01", api.SOA, api.ErrShort},
		{"\x00\x00" + strings.Repeat("\x01", 19), api.SOA, api.ErrShort},
		{"\x00\x00" + strings.Repeat("\x01", 21), api.SOA, api.ErrExtra},
		{"\x00\x00\x40\x40", api.NS, api.ErrExtra},
	} {
		refused(t, c.b, 0, len(c.b), c.kind, c.want)
	}
}

func TestGetTexts(t *testing.T) {
	nought := func(count int) string { return strings.Repeat("\x00", count) }
	for _, c := range []struct {
		b    string
		want api.Errno
	}{
		{"", api.ErrForm},
		{"\x01", api.ErrShort},
		{"\x02a", api.ErrShort},
		{"\xff" + strings.Repeat("t", 254), api.ErrShort},
		{"\x00\x01", api.ErrShort},
		{"\x01a\x02b", api.ErrShort},
		{nought(63) + "\x01", api.ErrShort},
		{nought(63) + "\x03ab", api.ErrShort},
		{nought(65), api.ErrLarge},
		{nought(64) + "\x01a", api.ErrLarge},
		{nought(64) + "\x01", api.ErrLarge},
		{nought(64) + "\xff", api.ErrLarge},
		{nought(64) + "\x00\x05", api.ErrLarge},
		{strings.Repeat("\x01a", 64) + "\x01", api.ErrLarge},
		{strings.Repeat("\xff"+strings.Repeat("t", 255), 65), api.ErrLarge},
		{nought(70000), api.ErrLarge},
	} {
		refused(t, c.b, 0, len(c.b), api.TXT, c.want)
		// What stands behind the data makes nothing whole.
		refused(t, c.b+strings.Repeat("\x00", 300), 0, len(c.b), api.TXT, c.want)
		refused(t, "\x01"+c.b+"\x01", 1, len(c.b), api.TXT, c.want)
	}
	for _, c := range []struct {
		b    string
		want []string
	}{
		{"\x00", []string{""}},
		{"\x01a\x00\x02bc", []string{"a", "", "bc"}},
		{"\xff" + strings.Repeat("t", 255), texts(1, 255)},
		{nought(64), texts(64, 0)},
		{"\x03\xc0\x00\xff", []string{"\xc0\x00\xff"}},
	} {
		if g := get(c.b+"\x01", 0, len(c.b), api.TXT); g.e != api.OK || !slices.Equal(g.d.Texts, c.want) {
			t.Errorf("Get(%.300q): %.300q, %d", c.b, g.d.Texts, g.e)
		}
	}
}

func TestGetOfMostBytes(t *testing.T) {
	b := strings.Repeat("\x07", 70000)
	for _, kind := range []int{3, 99, api.OPT, api.ANY, 65535} {
		for _, size := range []int{65534, 65535} {
			if g := get(b, 9, size, kind); g.e != api.OK || !alike(g.d, api.Data{Bytes: filled(size)}) {
				t.Errorf("Get of %d bytes of %d: %d bytes, %d", size, kind, len(g.d.Bytes), g.e)
			}
		}
		for _, size := range []int{65536, 65537, 69991} {
			refused(t, b, 9, size, kind, api.ErrExtra)
		}
	}
	refused(t, b, 0, 70000, api.A, api.ErrExtra)
	refused(t, b, 0, 70000, api.AAAA, api.ErrExtra)
}

// Each type but those of the document's list has its bytes, and nothing else.
func TestGetOfEachType(t *testing.T) {
	for kind := 1; kind <= 65535; kind++ {
		d, e := rdata.Get([]byte("\x00\x01a\x00\x05"), 1, 3, kind)
		switch has(kind) {
		case "Host":
			if e != api.OK || !alike(d, api.Data{Host: []string{"a"}}) {
				t.Fatalf("%d: %v, %d", kind, d, e)
			}
		case "Bytes":
			if !slices.Contains(named, kind) && (e != api.OK || !alike(d, api.Data{Bytes: []byte("\x01a\x00")})) {
				t.Fatalf("%d: %v, %d", kind, d, e)
			}
		}
	}
}

func TestGetAnswersNewMemory(t *testing.T) {
	for _, c := range samples() {
		if len(c.want) > 1000 {
			continue
		}
		b := append(append([]byte(nil), c.want...), 9, 9, 9)
		one, e := rdata.Get(b[:len(c.want)], 0, len(c.want), c.kind)
		two, _ := rdata.Get(b[:len(c.want)], 0, len(c.want), c.kind)
		if e != api.OK || string(b) != c.want+"\x09\x09\x09" {
			t.Errorf("Get of %d: %d, b is %q", c.kind, e, b)
		}
		spoil(one)
		if string(b) != c.want+"\x09\x09\x09" || !alike(two, c.d) {
			t.Errorf("Get of %d shares its answer", c.kind)
		}
		for i := range b {
			b[i] = 77
		}
		if !alike(two, c.d) {
			t.Errorf("Get of %d keeps what it was handed: %v", c.kind, two)
		}
	}
}

// modelGet reads data as the document tells it, type by type.
func modelGet(b []byte, at, size, kind int) (api.Data, api.Errno) {
	if at < 0 || size < 0 || kind < 1 || kind > 65535 {
		return api.Data{}, api.ErrArg
	}
	if at > len(b) || size > len(b)-at {
		return api.Data{}, api.ErrShort
	}
	parts := map[int]string{
		api.A: "4", api.AAAA: "x", api.NS: "h", api.CNAME: "h", api.PTR: "h",
		api.MX: "nh", api.SOA: "hmNNNNN", api.TXT: "t", api.SRV: "nnnh",
	}[kind]
	if parts == "" {
		parts = "*"
	}
	d, end := api.Data{}, at+size
	var e api.Errno
	for _, part := range parts {
		if at, e = modelPart(b, at, end, part, &d); e != api.OK {
			return api.Data{}, e
		}
	}
	if at != end {
		return api.Data{}, api.ErrExtra
	}
	return d, api.OK
}

// modelPart reads one part into d, and answers the place behind it.
func modelPart(b []byte, at, end int, part rune, d *api.Data) (int, api.Errno) {
	switch part {
	case 'h', 'm':
		n, next, e := wname.Get(b, at)
		if e == api.OK && next > end {
			e = api.ErrShort
		}
		if part == 'h' {
			d.Host = n
		} else {
			d.Mail = n
		}
		return next, e
	case 't':
		return modelTexts(b[:end], at, d)
	case 'n', 'N':
		size := map[rune]int{'n': 2, 'N': 4}[part]
		if end-at < size {
			return 0, api.ErrShort
		}
		n := 0
		for _, x := range b[at : at+size] {
			n = n*256 + int(x)
		}
		d.Nums = append(d.Nums, n)
		return at + size, api.OK
	}
	size := map[rune]int{'4': 4, 'x': 16, '*': min(65535, end-at)}[part]
	if end-at < size {
		return 0, api.ErrShort
	}
	d.Bytes = slices.Clone(b[at : at+size])
	return at + size, api.OK
}

func modelTexts(b []byte, at int, d *api.Data) (int, api.Errno) {
	for at < len(b) {
		if len(d.Texts) == 64 {
			return 0, api.ErrLarge
		}
		size := int(b[at])
		if len(b)-at-1 < size {
			return 0, api.ErrShort
		}
		d.Texts = append(d.Texts, string(b[at+1:at+1+size]))
		at += 1 + size
	}
	if len(d.Texts) == 0 {
		return 0, api.ErrForm
	}
	return at, api.OK
}

// agree holds Get against the model.
func agree(t *testing.T, b []byte, at, size, kind int) {
	t.Helper()
	d, e := rdata.Get(b, at, size, kind)
	want, wantE := modelGet(b, at, size, kind)
	if e != wantE || !alike(d, want) {
		t.Fatalf("Get(%q, %d, %d, %d): %v, %d, not %v, %d", b, at, size, kind, d, e, want, wantE)
	}
	if e == api.OK && !rdata.Sound(kind, d) {
		t.Fatalf("Get(%q, %d, %d, %d) is not sound: %v", b, at, size, kind, d)
	}
}

// Bytes that are drawn, most of them small ones and pointers, are held against
// the model; so no bytes lead to a panic, either.
func TestGetAsTheModel(t *testing.T) {
	alphabet := []byte{0, 0, 0, 1, 1, 2, 3, 63, 64, 191, 192, 192, 193, 255, 'a', 'b'}
	kinds := append([]int{99, 0, 65535, 65536}, named...)
	for seed := range 40 {
		draw := rand.New(rand.NewSource(int64(seed)))
		for range 3000 {
			b := make([]byte, draw.Intn(60))
			for i := range b {
				b[i] = alphabet[draw.Intn(len(alphabet))]
			}
			at := draw.Intn(len(b)+3) - 1
			size := draw.Intn(len(b)+3) - 1
			if draw.Intn(2) == 0 && at >= 0 {
				size = max(len(b)-at, 0)
			}
			agree(t, b, at, size, kinds[draw.Intn(len(kinds))])
		}
	}
}

// What Put wrote is read as it was, in whatever order it came; a byte of it that
// is changed is held against the model.
func TestGetOfPut(t *testing.T) {
	list := samples()
	list = slices.DeleteFunc(list, func(c written) bool { return len(c.want) > 400 })
	for seed := range 30 {
		draw := rand.New(rand.NewSource(int64(seed)))
		w := wname.New()
		w.Raw(make([]byte, draw.Intn(2)*(16384-100+draw.Intn(100))))
		var put []written
		var places []int
		for range 30 {
			c := list[draw.Intn(len(list))]
			put, places = append(put, c), append(places, w.Len())
			if e := rdata.Put(w, c.kind, c.d); e != api.OK {
				t.Fatalf("Put(%d, %v): %d", c.kind, c.d, e)
			}
		}
		b := w.Bytes()
		places = append(places, len(b))
		for i, c := range put {
			at, size := places[i], places[i+1]-places[i]
			if d, e := rdata.Get(b, at, size, c.kind); e != api.OK || !alike(d, c.d) || !rdata.Same(d, c.d) {
				t.Fatalf("seed %d: Get of Put(%d, %v): %v, %d", seed, c.kind, c.d, d, e)
			}
		}
		for range 300 {
			i := draw.Intn(len(put))
			at, size := places[i], places[i+1]-places[i]
			if size == 0 {
				continue
			}
			other := bytes.Clone(b)
			other[at+draw.Intn(size)] = byte(draw.Intn(256))
			agree(t, other, at, size, put[i].kind)
			agree(t, b, at, draw.Intn(size+1), put[i].kind)
		}
	}
}

// Calls hang on nothing that was called ahead of them.
func TestTheSameCallsHaveTheSameAnswers(t *testing.T) {
	var first string
	for round := range 3 {
		var all []any
		for _, c := range append(samples(), unsound()...) {
			if len(c.want) > 400 || len(c.d.Bytes) > 400 {
				continue
			}
			w := wname.New()
			e := rdata.Put(w, c.kind, c.d)
			all = append(all, rdata.Sound(c.kind, c.d), e, w.Bytes(), get(c.want, 0, len(c.want), c.kind), get("\x01a\x00", 0, 3, c.kind))
		}
		told := fmt.Sprint(all)
		if round == 0 {
			first = told
		} else if told != first {
			t.Errorf("round %d has other answers", round)
		}
	}
}
