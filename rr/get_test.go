package rr_test

import (
	"bytes"
	"math"
	"math/rand"
	"slices"
	"strings"
	"testing"

	"gazetteer/api"
	"gazetteer/rdata"
	"gazetteer/rr"
	"gazetteer/wname"
)

// refused checks that Get answers an error and nothing beside it.
func refused(t *testing.T, b string, at int, want api.Errno) {
	t.Helper()
	if r, next, e := rr.Get([]byte(b), at); e != want || next != 0 || !alikeRR(r, api.RR{}) {
		t.Errorf("Get(%.300q, %d): %s, %d, %d, not %d", b, at, tell(r), next, e, want)
	}
}

func TestGet(t *testing.T) {
	for _, c := range samples() {
		for _, more := range []string{"", "\x00", "\xff\xff\xff", strings.Repeat("\x01", 300)} {
			r, next, e := rr.Get([]byte(c.want+more), 0)
			if e != api.OK || next != len(c.want) || !alikeRR(r, c.r) {
				t.Errorf("Get(%.300q): %s, %d, %d, not %s", c.want, tell(r), next, e, tell(c.r))
			}
		}
	}
}

// Records that have no pointers are read wherever they stand.
func TestGetFromAPlace(t *testing.T) {
	for _, c := range samples() {
		if strings.Contains(c.want, "\xc0") {
			continue
		}
		for _, ahead := range []int{1, 2, 300, 20000} {
			b := strings.Repeat("\x40", ahead) + c.want + "\x40\x40"
			r, next, e := rr.Get([]byte(b), ahead)
			if e != api.OK || next != ahead+len(c.want) || !alikeRR(r, c.r) {
				t.Errorf("Get(%.400q, %d): %s, %d, %d, not %s", b, ahead, tell(r), next, e, tell(c.r))
			}
		}
	}
}

// Wherever a record is cut it is short: in its name, its head, its data.
func TestGetOfLessBytes(t *testing.T) {
	for _, c := range samples() {
		if len(c.want) > 600 {
			continue
		}
		for size := range len(c.want) {
			refused(t, c.want[:size], 0, api.ErrShort)
		}
	}
}

// Spare room behind b is not b.
func TestGetDoesNotReadSpareRoom(t *testing.T) {
	for _, c := range samples() {
		room := []byte(c.want)
		for _, size := range []int{0, 1, 3, len(room) / 2, len(room) - 1} {
			if r, next, e := rr.Get(room[:size], 0); e != api.ErrShort || next != 0 || !alikeRR(r, api.RR{}) {
				t.Errorf("Get from spare room: %s, %d, %d", tell(r), next, e)
			}
		}
	}
}

func TestGetOfNoPlace(t *testing.T) {
	for _, b := range []string{"", "\x00", samples()[0].want, strings.Repeat("\x00", 300)} {
		for _, at := range []int{-1, -2, -256, math.MinInt, math.MinInt + 1} {
			refused(t, b, at, api.ErrArg)
		}
		for _, at := range []int{len(b), len(b) + 1, 1 << 32, math.MaxInt - 1, math.MaxInt} {
			refused(t, b, at, api.ErrShort)
		}
	}
	if _, _, e := rr.Get(nil, -1); e != api.ErrArg {
		t.Errorf("Get(nil, -1): %d", e)
	}
	if _, _, e := rr.Get(nil, 0); e != api.ErrShort {
		t.Errorf("Get(nil, 0): %d", e)
	}
}

// Errors of the name come ahead of all others, whatever stands behind it.
func TestGetOfNamesThatAreNone(t *testing.T) {
	for _, c := range []struct {
		name string
		want api.Errno
	}{
		{"\x40", api.ErrName},
		{"\x80\x00", api.ErrName},
		{"\xbf\x00", api.ErrName},
		{"\x01a\x7f\x00", api.ErrName},
		{strings.Repeat("\x01a", 128) + "\x00", api.ErrName},
		{"\xff\xff", api.ErrLoop},
		{"\xc0\x00", api.ErrLoop},
		{"\x01a\xc0\x00", api.ErrLoop},
		{"\x01a\xc0\x02", api.ErrLoop},
	} {
		for _, behind := range []string{"", "\x00", told("", 0, 1, 1, 0, ""), told("", 1, 1, 1, 4, "\x01\x02\x03\x04"), told("", 1, 1, 1, 9, "")} {
			refused(t, c.name+behind, 0, c.want)
		}
	}
}

// ErrShort of the head comes ahead of ErrForm of Type 0, and that ahead of all
// errors of the data.
func TestGetOfTypeNothing(t *testing.T) {
	for _, n := range []string{"\x00", "\x01a\x00"} {
		for _, size := range []int{0, 1, 4, 65535} {
			for _, ttl := range []int{0, 5, 1 << 31} {
				whole := told(n, 0, 1, ttl, size, "")
				refused(t, whole, 0, api.ErrForm)
				refused(t, whole+strings.Repeat("\x00", size), 0, api.ErrForm)
				refused(t, whole+strings.Repeat("\x00", size/2), 0, api.ErrForm)
				for less := 1; less <= 10; less++ {
					refused(t, whole[:len(whole)-less], 0, api.ErrShort)
				}
			}
		}
	}
	for _, kind := range []int{3, 256, 512, 65280} {
		r, next, e := rr.Get([]byte(told("\x00", kind, 1, 1, 1, "\x09")), 0)
		if e != api.OK || next != 12 || r.Type != kind {
			t.Errorf("Type %d: %s, %d, %d", kind, tell(r), next, e)
		}
	}
}

func TestGetOfDataThatIsNone(t *testing.T) {
	for _, c := range []struct {
		kind, size int
		data       string
		want       api.Errno
	}{
		{api.A, 4, "\x01\x02\x03", api.ErrShort},
		{api.A, 3, "\x01\x02\x03", api.ErrShort},
		{api.A, 3, "\x01\x02\x03\x04", api.ErrShort},
		{api.A, 5, "\x01\x02\x03\x04\x05", api.ErrExtra},
		{api.A, 5, "\x01\x02\x03\x04", api.ErrShort},
		{api.A, 0, "", api.ErrShort},
		{api.AAAA, 4, "\x01\x02\x03\x04", api.ErrShort},
		{api.AAAA, 17, strings.Repeat("\x01", 17), api.ErrExtra},
		{api.NS, 0, "\x00", api.ErrShort},
		{api.NS, 1, "\x01a\x00", api.ErrShort},
		{api.NS, 1, "\x40", api.ErrName},
		{api.NS, 2, "\xc0\x0b", api.ErrLoop},
		{api.NS, 2, "\xc0\x0c", api.ErrLoop},
		{api.NS, 2, "\x00\x00", api.ErrExtra},
		{api.MX, 2, "\x00\x01\x00", api.ErrShort},
		{api.SOA, 21, strings.Repeat("\x00", 22), api.ErrShort},
		{api.SOA, 23, strings.Repeat("\x00", 23), api.ErrExtra},
		{api.TXT, 0, "\x00", api.ErrForm},
		{api.TXT, 1, "\x01a", api.ErrShort},
		{api.TXT, 65, strings.Repeat("\x00", 65), api.ErrLarge},
		{api.TXT, 65, strings.Repeat("\x00", 64) + "\x05", api.ErrLarge},
		{99, 1, "", api.ErrShort},
		{99, 65535, strings.Repeat("\x00", 65534), api.ErrShort},
		{99, 258, "\x01\x02", api.ErrShort},
	} {
		refused(t, told("\x00", c.kind, 1, 1, c.size, c.data), 0, c.want)
	}
}

// A TTL whose highest bit is 1 is 0, of whatever type and class.
func TestGetTTL(t *testing.T) {
	for _, c := range []struct{ ttl, want int }{
		{0, 0}, {1, 1}, {258, 258}, {1 << 30, 1 << 30}, {1<<31 - 2, 1<<31 - 2}, {1<<31 - 1, 1<<31 - 1},
		{1 << 31, 0}, {1<<31 + 1, 0}, {1<<31 + 1<<30, 0}, {1<<32 - 2, 0}, {1<<32 - 1, 0},
	} {
		for _, kind := range []int{api.A, api.OPT, 99} {
			for _, class := range []int{0, 1, 65535} {
				r, next, e := rr.Get([]byte(told("\x00", kind, class, c.ttl, 4, "\x01\x02\x03\x04")), 0)
				want := api.RR{Type: kind, Class: class, TTL: c.want, Data: api.Data{Bytes: []byte{1, 2, 3, 4}}}
				if e != api.OK || next != 15 || !alikeRR(r, want) {
					t.Errorf("TTL %d: %s, %d, %d", c.ttl, tell(r), next, e)
				}
			}
		}
	}
}

// The place behind a record is behind its data, wherever pointers led.
func TestGetFollowsPointers(t *testing.T) {
	ahead := "\x01b\x01a\x00"
	ns := told("\xc0\x02", 2, 1, 5, 4, "\x01n\xc0\x00")
	own := told("\x01x\xc0\x00", 5, 1, 6, 2, "\xc0\x15")
	b := ahead + ns + own
	for _, c := range []struct {
		at, next int
		want     api.RR
	}{
		{5, 21, api.RR{Name: []string{"a"}, Type: api.NS, Class: 1, TTL: 5, Data: api.Data{Host: []string{"n", "b", "a"}}}},
		{21, 37, api.RR{Name: []string{"x", "b", "a"}, Type: api.CNAME, Class: 1, TTL: 6, Data: api.Data{Host: []string{"x", "b", "a"}}}},
	} {
		r, next, e := rr.Get([]byte(b), c.at)
		if e != api.OK || next != c.next || !alikeRR(r, c.want) {
			t.Errorf("Get(%q, %d): %s, %d, %d", b, c.at, tell(r), next, e)
		}
	}
}

func TestGetAnswersNewMemory(t *testing.T) {
	for _, c := range samples() {
		if len(c.want) > 1000 {
			continue
		}
		b := append([]byte(c.want), 9, 9, 9)
		one, _, e := rr.Get(b[:len(c.want)], 0)
		two, _, _ := rr.Get(b[:len(c.want)], 0)
		if e != api.OK || string(b) != c.want+"\x09\x09\x09" {
			t.Errorf("Get: %d, b is %q", e, b)
		}
		spoil(one)
		if string(b) != c.want+"\x09\x09\x09" || !alikeRR(two, c.r) {
			t.Errorf("Get shares its answer: %s", tell(two))
		}
		for i := range b {
			b[i] = 77
		}
		if !alikeRR(two, c.r) {
			t.Errorf("Get keeps what it was handed: %s", tell(two))
		}
	}
}

// modelGet reads a record as the document tells it, byte by byte.
func modelGet(b []byte, at int) (api.RR, int, api.Errno) {
	n, at, e := wname.Get(b, at)
	if e != api.OK {
		return api.RR{}, 0, e
	}
	if len(b) < at+10 {
		return api.RR{}, 0, api.ErrShort
	}
	h := make([]int, 10)
	for i := range h {
		h[i] = int(b[at+i])
	}
	r := api.RR{Name: n, Type: h[0]*256 + h[1], Class: h[2]*256 + h[3]}
	if h[4] < 128 {
		r.TTL = h[4]*16777216 + h[5]*65536 + h[6]*256 + h[7]
	}
	if r.Type == 0 {
		return api.RR{}, 0, api.ErrForm
	}
	size := h[8]*256 + h[9]
	r.Data, e = rdata.Get(b, at+10, size, r.Type)
	if e != api.OK {
		return api.RR{}, 0, e
	}
	return r, at + 10 + size, api.OK
}

// agree holds Get against the model; what is read is sound, and is the same when
// it is written and read once more.
func agree(t *testing.T, b []byte, at int) {
	t.Helper()
	r, next, e := rr.Get(b, at)
	want, wantNext, wantE := modelGet(b, at)
	if e != wantE || next != wantNext || !alikeRR(r, want) {
		t.Fatalf("Get(%q, %d): %s, %d, %d, not %s, %d, %d", b, at, tell(r), next, e, tell(want), wantNext, wantE)
	}
	if e != api.OK {
		return
	}
	w := wname.New()
	if e := rr.Put(w, r); e != api.OK || !rr.Sound(r) {
		t.Fatalf("Put of Get(%q, %d), %s: %d", b, at, tell(r), e)
	}
	if two, next, e := rr.Get(w.Bytes(), 0); e != api.OK || next != w.Len() || !alikeRR(two, r) {
		t.Fatalf("Get of Put of Get(%q, %d): %s, %d, %d", b, at, tell(two), next, e)
	}
}

// Bytes that are drawn, most of them small ones and pointers, are held against
// the model; so no bytes lead to a panic, either.
func TestGetAsTheModel(t *testing.T) {
	alphabet := []byte{0, 0, 0, 1, 1, 2, 3, 63, 64, 191, 192, 192, 193, 255, 'a', 'b'}
	kinds := []int{api.A, api.NS, api.CNAME, api.SOA, api.PTR, api.MX, api.TXT, api.AAAA, api.SRV, api.OPT, api.ANY, 0, 99}
	draws := func(draw *rand.Rand, size int) string {
		b := make([]byte, size)
		for i := range b {
			b[i] = alphabet[draw.Intn(len(alphabet))]
		}
		return string(b)
	}
	for seed := range 40 {
		draw := rand.New(rand.NewSource(int64(seed)))
		for range 2000 {
			agree(t, []byte(draws(draw, draw.Intn(60))), draw.Intn(20)-1)
			ahead, data := draws(draw, draw.Intn(10)), draws(draw, draw.Intn(40))
			name := []string{"\x00", "\x01a\x00", "\x01b\xc0\x00", "\xc0\x00"}[draw.Intn(4)]
			size := len(data) + draw.Intn(3) - 1
			if draw.Intn(2) == 0 {
				size = len(data)
			}
			b := ahead + told(name, kinds[draw.Intn(len(kinds))], draw.Intn(3), draw.Intn(1<<32), max(size, 0), data)
			agree(t, []byte(b), len(ahead))
		}
	}
}

// What Put wrote is read as it was, in whatever order it came; with a byte that
// is changed it is held against the model.
func TestGetOfPut(t *testing.T) {
	list := samples()
	list = slices.DeleteFunc(list, func(c written) bool { return len(c.want) > 600 })
	for seed := range 30 {
		draw := rand.New(rand.NewSource(int64(seed)))
		w := wname.New()
		w.Raw(make([]byte, draw.Intn(2)*(16384-100+draw.Intn(100))))
		var put []api.RR
		places := []int{w.Len()}
		for range 30 {
			r := list[draw.Intn(len(list))].r
			if e := rr.Put(w, r); e != api.OK {
				t.Fatalf("Put(%s): %d", tell(r), e)
			}
			put, places = append(put, r), append(places, w.Len())
		}
		b := w.Bytes()
		for i, want := range put {
			r, next, e := rr.Get(b, places[i])
			if e != api.OK || next != places[i+1] || !alikeRR(r, want) {
				t.Fatalf("seed %d: Get of Put(%s): %s, %d, %d", seed, tell(want), tell(r), next, e)
			}
		}
		for range 200 {
			i := draw.Intn(len(put))
			other := bytes.Clone(b)
			other[places[i]+draw.Intn(places[i+1]-places[i])] = byte(draw.Intn(256))
			agree(t, other, places[i])
			agree(t, b[:places[i]+draw.Intn(places[i+1]-places[i]+1)], places[i])
		}
	}
}
