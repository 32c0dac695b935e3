package rr_test

import (
	"bytes"
	"fmt"
	"math"
	"reflect"
	"slices"
	"strings"
	"testing"

	"gazetteer/api"
	"gazetteer/rr"
	"gazetteer/wname"
)

// written is a record, and how it is written where nothing stands ahead.
type written struct {
	r    api.RR
	want string
}

func label(size int) string {
	return strings.Repeat("a", size)
}

func filled(size int) []byte {
	return bytes.Repeat([]byte{7}, size)
}

// longest is a name of as many bytes as one may have.
func longest() []string {
	return []string{label(63), label(63), label(63), label(61)}
}

func longestWritten() string {
	return "\x3f" + label(63) + "\x3f" + label(63) + "\x3f" + label(63) + "\x3d" + label(61) + "\x00"
}

// address is a record of type A.
func address(n []string, class, ttl int) api.RR {
	return api.RR{Name: n, Type: api.A, Class: class, TTL: ttl, Data: api.Data{Bytes: []byte{1, 2, 3, 4}}}
}

// number is n as size bytes.
func number(n, size int) string {
	var out []byte
	for i := size - 1; i >= 0; i-- {
		out = append(out, byte(n>>(8*i)))
	}
	return string(out)
}

// told is the bytes of a record, part by part.
func told(n string, kind, class, ttl, size int, data string) string {
	return n + number(kind, 2) + number(class, 2) + number(ttl, 4) + number(size, 2) + data
}

// samples are records of all types that have parts of their own, and others, at
// their edges too.
func samples() []written {
	host := []string{"b", "a"}
	list := []written{
		{address([]string{"a"}, api.IN, 5), "\x01a\x00\x00\x01\x00\x01\x00\x00\x00\x05\x00\x04\x01\x02\x03\x04"},
		{address(nil, api.IN, 258), "\x00\x00\x01\x00\x01\x00\x00\x01\x02\x00\x04\x01\x02\x03\x04"},
		{address([]string{"WWW", "a.b", "\x00\xff"}, api.IN, 65536), told("\x03WWW\x03a.b\x02\x00\xff\x00", 1, 1, 65536, 4, "\x01\x02\x03\x04")},
		{address(longest(), api.IN, 1), told(longestWritten(), 1, 1, 1, 4, "\x01\x02\x03\x04")},
	}
	for _, class := range []int{0, 1, 2, 3, 255, 256, 258, 4096, 65534, 65535} {
		list = append(list, written{address([]string{"c"}, class, 7), told("\x01c\x00", 1, class, 7, 4, "\x01\x02\x03\x04")})
	}
	for _, ttl := range []int{0, 1, 255, 256, 65535, 1 << 16, 1 << 24, 1<<30 + 1, 1<<31 - 2, 1<<31 - 1} {
		list = append(list, written{address([]string{"t"}, api.IN, ttl), told("\x01t\x00", 1, 1, ttl, 4, "\x01\x02\x03\x04")})
	}
	// The name ahead has a at place 2; the data begins at place 15.
	for _, c := range []struct {
		kind int
		d    api.Data
		size int
		want string
	}{
		{api.AAAA, api.Data{Bytes: filled(16)}, 16, strings.Repeat("\x07", 16)},
		{api.NS, api.Data{Host: host}, 4, "\x01b\xc0\x02"},
		{api.CNAME, api.Data{Host: []string{"z", "a"}}, 2, "\xc0\x00"},
		{api.CNAME, api.Data{Host: []string{"Z", "a"}}, 4, "\x01Z\xc0\x02"},
		{api.PTR, api.Data{}, 1, "\x00"},
		{api.MX, api.Data{Nums: []int{10}, Host: host}, 6, "\x00\x0a\x01b\xc0\x02"},
		{api.SOA, api.Data{Host: host, Mail: []string{"m", "b", "a"}, Nums: []int{1, 2, 3, 4, 1<<32 - 1}}, 28,
			"\x01b\xc0\x02\x01m\xc0\x0f" + "\x00\x00\x00\x01\x00\x00\x00\x02\x00\x00\x00\x03\x00\x00\x00\x04\xff\xff\xff\xff"},
		{api.TXT, api.Data{Texts: []string{"x", "", "\x00\xff"}}, 6, "\x01x\x00\x02\x00\xff"},
		{api.SRV, api.Data{Nums: []int{1, 2, 65535}, Host: host}, 11, "\x00\x01\x00\x02\xff\xff\x01b\x01a\x00"},
		{api.OPT, api.Data{}, 0, ""},
		{api.ANY, api.Data{Bytes: []byte{9}}, 1, "\x09"},
		{256, api.Data{}, 0, ""},
		{99, api.Data{Bytes: []byte("\x01z\x01a\x00")}, 5, "\x01z\x01a\x00"},
		{65535, api.Data{Bytes: filled(258)}, 258, strings.Repeat("\x07", 258)},
		{65535, api.Data{Bytes: filled(65535)}, 65535, strings.Repeat("\x07", 65535)},
		{api.TXT, api.Data{Texts: slices.Repeat([]string{strings.Repeat("t", 255)}, 64)}, 16384, strings.Repeat("\xff"+strings.Repeat("t", 255), 64)},
	} {
		r := api.RR{Name: []string{"z", "a"}, Type: c.kind, Class: api.IN, TTL: 60, Data: c.d}
		list = append(list, written{r, told("\x01z\x01a\x00", c.kind, 1, 60, c.size, c.want)})
	}
	return list
}

// unsound are records of which one thing is not as it may be.
func unsound() []api.RR {
	var list []api.RR
	for _, n := range [][]string{
		{""}, {"a", ""}, {"", "a"}, {label(64)}, {"a", label(256)}, {label(63), label(63), label(63), label(62)},
		slices.Repeat([]string{"a"}, 128),
	} {
		list = append(list, address(n, api.IN, 5))
		list = append(list, api.RR{Name: []string{"a"}, Type: api.NS, Class: api.IN, Data: api.Data{Host: n}})
	}
	for _, n := range []int{-1, -2, -65535, 65536, 65537, 1 << 32, 1<<32 + 1, math.MaxInt, math.MinInt, math.MinInt + 1} {
		list = append(list, address([]string{"a"}, n, 5))
		for _, d := range []api.Data{{}, {Bytes: []byte{1, 2, 3, 4}}, {Host: []string{"a"}}} {
			list = append(list, api.RR{Name: []string{"a"}, Type: n, Class: api.IN, TTL: 5, Data: d})
		}
	}
	list = append(list, api.RR{Class: api.IN}, api.RR{Class: api.IN, Data: api.Data{Bytes: []byte{1, 2, 3, 4}}})
	for _, ttl := range []int{-1, -2, -(1 << 31), 1 << 31, 1<<31 + 1, 1<<32 - 1, 1 << 32, 1<<32 + 1, math.MaxInt, math.MinInt, math.MinInt + 1} {
		list = append(list, address([]string{"a"}, api.IN, ttl))
	}
	for _, c := range []struct {
		kind int
		d    api.Data
	}{
		{api.A, api.Data{}},
		{api.A, api.Data{Bytes: filled(3)}},
		{api.A, api.Data{Bytes: filled(5)}},
		{api.A, api.Data{Bytes: filled(4), Host: []string{"a"}}},
		{api.AAAA, api.Data{Bytes: filled(4)}},
		{api.NS, api.Data{Bytes: filled(4)}},
		{api.MX, api.Data{Host: []string{"a"}}},
		{api.MX, api.Data{Host: []string{"a"}, Nums: []int{65536}}},
		{api.SOA, api.Data{Host: []string{"a"}, Mail: []string{"a"}}},
		{api.SRV, api.Data{Host: []string{"a"}, Nums: []int{1, 2}}},
		{api.TXT, api.Data{}},
		{api.TXT, api.Data{Texts: []string{label(256)}}},
		{api.TXT, api.Data{Texts: make([]string, 65)}},
		{api.OPT, api.Data{Nums: []int{1}}},
		{99, api.Data{Texts: []string{"a"}}},
		{99, api.Data{Bytes: filled(65536)}},
		{65535, api.Data{Bytes: filled(65537)}},
	} {
		list = append(list, api.RR{Name: []string{"a"}, Type: c.kind, Class: api.IN, TTL: 5, Data: c.d})
	}
	return list
}

// alike holds data byte by byte; nil and empty lists are the same.
func alike(a, b api.Data) bool {
	return bytes.Equal(a.Bytes, b.Bytes) && slices.Equal(a.Host, b.Host) && slices.Equal(a.Mail, b.Mail) &&
		slices.Equal(a.Nums, b.Nums) && slices.Equal(a.Texts, b.Texts)
}

func alikeRR(a, b api.RR) bool {
	return slices.Equal(a.Name, b.Name) && a.Type == b.Type && a.Class == b.Class && a.TTL == b.TTL && alike(a.Data, b.Data)
}

// tell is any value as text, cut where it is long.
func tell(x any) string {
	s := fmt.Sprintf("%v", x)
	return s[:min(len(s), 200)]
}

func TestSound(t *testing.T) {
	for _, c := range samples() {
		if !rr.Sound(c.r) {
			t.Errorf("Sound(%s) is false", tell(c.r))
		}
	}
	for _, r := range unsound() {
		if rr.Sound(r) {
			t.Errorf("Sound(%s) is true", tell(r))
		}
	}
	if rr.Sound(api.RR{}) {
		t.Errorf("Sound of no record is true")
	}
}

// Names, classes and TTLs are held to their bounds whatever the type is.
func TestSoundOfEachSample(t *testing.T) {
	for _, c := range samples() {
		for _, change := range []func(r *api.RR){
			func(r *api.RR) { r.Name = []string{""} },
			func(r *api.RR) { r.Name = []string{label(64)} },
			func(r *api.RR) { r.Type = 0 },
			func(r *api.RR) { r.Type += 65536 },
			func(r *api.RR) { r.Class = -1 },
			func(r *api.RR) { r.Class += 65536 },
			func(r *api.RR) { r.TTL = -1 },
			func(r *api.RR) { r.TTL += 1 << 31 },
			func(r *api.RR) { r.Data.Mail = append(slices.Clip(r.Data.Mail), "") },
		} {
			r := c.r
			change(&r)
			if rr.Sound(r) {
				t.Errorf("Sound(%s) is true", tell(r))
			}
		}
	}
}

func TestPut(t *testing.T) {
	for _, c := range samples() {
		w := wname.New()
		if e := rr.Put(w, c.r); e != api.OK || string(w.Bytes()) != c.want {
			t.Errorf("Put(%s): %d, %.300q, not %.300q", tell(c.r), e, w.Bytes(), c.want)
		}
	}
	w := &wname.Writer{}
	if e := rr.Put(w, address([]string{"a"}, 1, 5)); e != api.OK || string(w.Bytes()) != samples()[0].want {
		t.Errorf("Put to the zero Writer: %d, %q", e, w.Bytes())
	}
}

// What is refused leaves neither bytes nor rests behind.
func TestPutRefused(t *testing.T) {
	for _, r := range unsound() {
		w := wname.New()
		w.Raw([]byte{9})
		if e := rr.Put(w, r); e != api.ErrForm || string(w.Bytes()) != "\x09" {
			t.Errorf("Put(%s): %d, %.100q", tell(r), e, w.Bytes())
		}
		w.Name([]string{"a"}, true)
		if string(w.Bytes()) != "\x09\x01a\x00" {
			t.Errorf("Put(%s) leaves rests: %.100q", tell(r), w.Bytes())
		}
	}
}

func TestPutToNobody(t *testing.T) {
	for _, c := range samples() {
		if e := rr.Put(nil, c.r); e != api.ErrForm {
			t.Errorf("Put(nil, %s): %d", tell(c.r), e)
		}
	}
	for _, r := range append(unsound(), api.RR{}) {
		if e := rr.Put(nil, r); e != api.ErrForm {
			t.Errorf("Put(nil, %s): %d", tell(r), e)
		}
	}
}

// Records one behind the other: names are short, and each length is that of the
// data as it is written.
func TestPutOneBehindTheOther(t *testing.T) {
	w := wname.New()
	w.Raw([]byte("ID"))
	for i, r := range []api.RR{
		{Name: []string{"www", "a"}, Type: api.CNAME, Class: 1, TTL: 1, Data: api.Data{Host: []string{"x", "a"}}},
		{Name: []string{"x", "a"}, Type: api.SRV, Class: 1, TTL: 2, Data: api.Data{Nums: []int{1, 2, 3}, Host: []string{"y", "a"}}},
		{Name: []string{"y", "a"}, Type: api.A, Class: 3, TTL: 3, Data: api.Data{Bytes: []byte{1, 2, 3, 4}}},
		{Name: []string{"W", "a"}, Type: api.MX, Class: 1, TTL: 4, Data: api.Data{Nums: []int{5}, Host: []string{"www", "a"}}},
		{Type: api.NS, Class: 1, TTL: 5, Data: api.Data{}},
	} {
		if e := rr.Put(w, r); e != api.OK {
			t.Errorf("record %d: %d", i, e)
		}
	}
	want := "ID" +
		told("\x03www\x01a\x00", 5, 1, 1, 4, "\x01x\xc0\x06") + // www from place 2, a from 6, x from 19 on
		told("\xc0\x13", 33, 1, 2, 11, "\x00\x01\x00\x02\x00\x03\x01y\x01a\x00") + // y from place 41 on
		told("\xc0\x29", 1, 3, 3, 4, "\x01\x02\x03\x04") +
		told("\x01W\xc0\x06", 15, 1, 4, 4, "\x00\x05\xc0\x02") +
		told("\x00", 2, 1, 5, 1, "\x00")
	if got := string(w.Bytes()); got != want {
		t.Errorf("%q, not %q", got, want)
	}
}

// Behind the places to which pointers can lead names are written whole.
func TestPutFarBehind(t *testing.T) {
	for _, ahead := range []int{16382, 16383, 16384, 70000} {
		w := wname.New()
		w.Raw(make([]byte, ahead))
		r := api.RR{Name: []string{"a"}, Type: api.NS, Class: 1, TTL: 1, Data: api.Data{Host: []string{"a"}}}
		want := told("\x01a\x00", 2, 1, 1, 3, "\x01a\x00")
		if ahead < 16384 {
			want = told("\x01a\x00", 2, 1, 1, 2, number(49152+ahead, 2))
		}
		if e := rr.Put(w, r); e != api.OK || string(w.Bytes()[ahead:]) != want {
			t.Errorf("behind %d bytes: %d, %q, not %q", ahead, e, w.Bytes()[ahead:], want)
		}
	}
}

// The most that data may be fits: nothing that is sound is too large.
func TestPutOfMostBytes(t *testing.T) {
	for _, size := range []int{65534, 65535} {
		r := api.RR{Type: 99, Class: 1, Data: api.Data{Bytes: filled(size)}}
		w := wname.New()
		if e := rr.Put(w, r); e != api.OK || string(w.Bytes()) != told("\x00", 99, 1, 0, size, string(filled(size))) {
			t.Errorf("%d bytes: %d, %d bytes", size, e, w.Len())
		}
	}
}

// roomy answers r with lists that have two places more, which are filled.
func roomy(r api.RR) api.RR {
	r.Name = append(append([]string(nil), r.Name...), "p", "q")[:len(r.Name)]
	r.Data = api.Data{
		Bytes: append(append([]byte(nil), r.Data.Bytes...), 5, 5)[:len(r.Data.Bytes)],
		Host:  append(append([]string(nil), r.Data.Host...), "p", "q")[:len(r.Data.Host)],
		Mail:  append(append([]string(nil), r.Data.Mail...), "p", "q")[:len(r.Data.Mail)],
		Nums:  append(append([]int(nil), r.Data.Nums...), 5, 5)[:len(r.Data.Nums)],
		Texts: append(append([]string(nil), r.Data.Texts...), "p", "q")[:len(r.Data.Texts)],
	}
	return r
}

// whole answers r with its lists as long as their room.
func whole(r api.RR) api.RR {
	r.Name = r.Name[:cap(r.Name)]
	d := r.Data
	r.Data = api.Data{
		Bytes: d.Bytes[:cap(d.Bytes)], Host: d.Host[:cap(d.Host)], Mail: d.Mail[:cap(d.Mail)],
		Nums: d.Nums[:cap(d.Nums)], Texts: d.Texts[:cap(d.Texts)],
	}
	return r
}

// spoil writes over all that the lists of r have, their spare room too.
func spoil(r api.RR) {
	r = whole(r)
	for i := range r.Data.Bytes {
		r.Data.Bytes[i] = 99
	}
	for _, list := range [][]string{r.Name, r.Data.Host, r.Data.Mail, r.Data.Texts} {
		for i := range list {
			list[i] = "spoilt"
		}
	}
	for i := range r.Data.Nums {
		r.Data.Nums[i] = 99
	}
}

// What is handed in has spare room, and is as it was behind every call.
func TestPutChangesNothingHandedIn(t *testing.T) {
	list := unsound()
	for _, c := range samples() {
		list = append(list, c.r)
	}
	for _, r := range list {
		if len(r.Data.Bytes) > 1000 {
			continue
		}
		r, ahead := roomy(r), roomy(r)
		rr.Sound(r)
		w := wname.New()
		rr.Put(w, r)
		rr.Put(w, r)
		if !reflect.DeepEqual(whole(r), whole(ahead)) {
			t.Errorf("%s was changed: %s", tell(ahead), tell(r))
		}
		want := string(w.Bytes())
		spoil(r)
		if string(w.Bytes()) != want {
			t.Errorf("Put keeps %s", tell(ahead))
		}
	}
}
