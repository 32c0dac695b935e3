package rdata_test

import (
	"bytes"
	"fmt"
	"math"
	"reflect"
	"slices"
	"strings"
	"testing"

	"gazetteer/api"
	"gazetteer/name"
	"gazetteer/rdata"
	"gazetteer/wname"
)

// written is data of a type, and how it is written where nothing stands ahead.
type written struct {
	kind int
	d    api.Data
	want string
}

// named are the types whose parts the document tells; all others have Bytes.
var named = []int{api.A, api.NS, api.CNAME, api.SOA, api.PTR, api.MX, api.TXT, api.AAAA, api.SRV}

// noKinds are numbers that no type has; some come round to one if they are cut
// to 16 bits.
var noKinds = []int{0, -1, -2, -65535, 65536, 65537, 65536 + api.NS, 1 << 32, 1<<32 + 1, math.MaxInt, math.MinInt, math.MinInt + 1}

func label(size int) string {
	return strings.Repeat("a", size)
}

// texts makes count texts of size bytes each.
func texts(count, size int) []string {
	return slices.Repeat([]string{strings.Repeat("t", size)}, count)
}

func filled(size int) []byte {
	return bytes.Repeat([]byte{7}, size)
}

// longest is a name of as many bytes as one may have.
func longest() []string {
	return []string{label(63), label(63), label(63), label(61)}
}

func longestWritten() string {
	return "\x3f" + label(63) + "\x3f" + label(63) + "\x3f" + label(63) + "\x3d" + label(61) + "\x00"
}

// samples are data of all types, at their edges too.
func samples() []written {
	list := []written{
		{api.A, api.Data{Bytes: []byte{1, 2, 3, 4}}, "\x01\x02\x03\x04"},
		{api.A, api.Data{Bytes: []byte{0, 0, 0, 0}}, "\x00\x00\x00\x00"},
		{api.AAAA, api.Data{Bytes: filled(16)}, strings.Repeat("\x07", 16)},
		{api.MX, api.Data{Nums: []int{10}, Host: []string{"a"}}, "\x00\x0a\x01a\x00"},
		{api.MX, api.Data{Nums: []int{0}}, "\x00\x00\x00"},
		{api.MX, api.Data{Nums: []int{65535}, Host: longest()}, "\xff\xff" + longestWritten()},
		{api.SOA, api.Data{Host: []string{"ns", "a"}, Mail: []string{"m.x", "b"}, Nums: []int{1, 258, 65536, 1 << 24, 1<<32 - 1}},
			"\x02ns\x01a\x00\x03m.x\x01b\x00" + "\x00\x00\x00\x01\x00\x00\x01\x02\x00\x01\x00\x00\x01\x00\x00\x00\xff\xff\xff\xff"},
		{api.SOA, api.Data{Nums: []int{0, 0, 0, 0, 0}}, strings.Repeat("\x00", 22)},
		{api.SOA, api.Data{Host: []string{"ns", "a"}, Mail: []string{"m", "a"}, Nums: []int{0, 0, 0, 0, 0}},
			"\x02ns\x01a\x00\x01m\xc0\x03" + strings.Repeat("\x00", 20)},
		{api.SOA, api.Data{Host: []string{"a"}, Mail: []string{"a"}, Nums: []int{0, 0, 0, 0, 1}}, "\x01a\x00\xc0\x00" + strings.Repeat("\x00", 19) + "\x01"},
		{api.SOA, api.Data{Host: []string{"a"}, Mail: []string{"A"}, Nums: []int{0, 0, 0, 0, 1}}, "\x01a\x00\x01A\x00" + strings.Repeat("\x00", 19) + "\x01"},
		{api.TXT, api.Data{Texts: []string{"x", ""}}, "\x01x\x00"},
		{api.TXT, api.Data{Texts: []string{""}}, "\x00"},
		{api.TXT, api.Data{Texts: []string{"", "\x00\xff", "abc"}}, "\x00\x02\x00\xff\x03abc"},
		{api.TXT, api.Data{Texts: texts(1, 255)}, "\xff" + strings.Repeat("t", 255)},
		{api.TXT, api.Data{Texts: texts(64, 0)}, strings.Repeat("\x00", 64)},
		{api.TXT, api.Data{Texts: texts(64, 255)}, strings.Repeat("\xff"+strings.Repeat("t", 255), 64)},
		{api.SRV, api.Data{Nums: []int{1, 2, 3}, Host: []string{"a"}}, "\x00\x01\x00\x02\x00\x03\x01a\x00"},
		{api.SRV, api.Data{Nums: []int{0, 65535, 258}, Host: longest()}, "\x00\x00\xff\xff\x01\x02" + longestWritten()},
		{api.SRV, api.Data{Nums: []int{0, 0, 0}}, "\x00\x00\x00\x00\x00\x00\x00"},
		{99, api.Data{Bytes: []byte{7}}, "\x07"},
		{api.OPT, api.Data{Bytes: []byte{0, 0}}, "\x00\x00"},
		{api.ANY, api.Data{Bytes: []byte("\x01a\x00")}, "\x01a\x00"},
		{65535, api.Data{}, ""},
		{65535, api.Data{Bytes: filled(65535)}, strings.Repeat("\x07", 65535)},
	}
	for _, kind := range []int{api.NS, api.CNAME, api.PTR} {
		list = append(list,
			written{kind, api.Data{}, "\x00"},
			written{kind, api.Data{Host: []string{"www", "Example"}}, "\x03www\x07Example\x00"},
			written{kind, api.Data{Host: []string{"a.b", "\x00", "\xff"}}, "\x03a.b\x01\x00\x01\xff\x00"},
			written{kind, api.Data{Host: longest()}, longestWritten()},
		)
	}
	return list
}

// unsound are data of types that they are not sound for.
func unsound() []written {
	var list []written
	add := func(d api.Data, kinds ...int) {
		for _, kind := range kinds {
			list = append(list, written{kind: kind, d: d})
		}
	}
	for _, size := range []int{0, 1, 3, 5, 15, 16, 17, 256, 260, 65540} {
		add(api.Data{Bytes: filled(size)}, api.A)
	}
	for _, size := range []int{0, 1, 4, 15, 17, 256, 272} {
		add(api.Data{Bytes: filled(size)}, api.AAAA)
	}
	for _, size := range []int{65536, 65537, 131072} {
		add(api.Data{Bytes: filled(size)}, 3, 99, api.OPT, api.ANY, 65535)
	}
	for _, n := range [][]string{
		{""}, {"a", ""}, {"", "a"}, {label(64)}, {"a", label(256)}, {label(63), label(63), label(63), label(62)},
		slices.Repeat([]string{"a"}, 128),
	} {
		add(api.Data{Host: n}, api.NS, api.CNAME, api.PTR)
		add(api.Data{Host: n, Nums: []int{1}}, api.MX)
		add(api.Data{Host: n, Nums: []int{1, 2, 3}}, api.SRV)
		add(api.Data{Host: n, Mail: []string{"a"}, Nums: []int{1, 2, 3, 4, 5}}, api.SOA)
		add(api.Data{Host: []string{"a"}, Mail: n, Nums: []int{1, 2, 3, 4, 5}}, api.SOA)
	}
	for _, count := range []int{0, 65, 66, 128, 320} {
		for _, size := range []int{0, 1} {
			add(api.Data{Texts: texts(count, size)}, api.TXT)
		}
	}
	for _, size := range []int{256, 257, 511, 512, 65536} {
		add(api.Data{Texts: texts(1, size)}, api.TXT)
		add(api.Data{Texts: []string{"a", label(size), "b"}}, api.TXT)
		add(api.Data{Texts: append(texts(63, 0), label(size))}, api.TXT)
	}
	return append(list, unsoundNums()...)
}

// unsoundNums are data whose numbers are too many or too few, or do not fit.
func unsoundNums() []written {
	var list []written
	have := map[int]int{api.MX: 1, api.SRV: 3, api.SOA: 5}
	for _, kind := range []int{api.MX, api.SRV, api.SOA} {
		for count := range 9 {
			if count != have[kind] {
				list = append(list, written{kind: kind, d: api.Data{Nums: make([]int, count)}})
			}
		}
		greatest := 65535
		if kind == api.SOA {
			greatest = 1<<32 - 1
		}
		for i := range have[kind] {
			for _, n := range []int{-1, -2, -256, greatest + 1, greatest + 2, 1 << 48, math.MaxInt, math.MinInt, math.MinInt + 1} {
				nums := make([]int, have[kind])
				nums[i] = n
				list = append(list, written{kind: kind, d: api.Data{Nums: nums}})
			}
		}
	}
	return list
}

// fields are the data that have one field alone.
func fields() map[string]api.Data {
	return map[string]api.Data{
		"Bytes": {Bytes: []byte{0}},
		"Host":  {Host: []string{"x"}},
		"Mail":  {Mail: []string{"x"}},
		"Nums":  {Nums: []int{0}},
		"Texts": {Texts: []string{""}},
	}
}

// has tells which fields the types of the document's list have.
func has(kind int) string {
	switch kind {
	case api.A, api.AAAA:
		return "Bytes"
	case api.NS, api.CNAME, api.PTR:
		return "Host"
	case api.MX, api.SRV:
		return "Host Nums"
	case api.SOA:
		return "Host Mail Nums"
	case api.TXT:
		return "Texts"
	}
	return "Bytes"
}

// with answers d with the fields of extra beside it.
func with(d, extra api.Data) api.Data {
	d.Bytes = append(slices.Clip(d.Bytes), extra.Bytes...)
	d.Host = append(slices.Clip(d.Host), extra.Host...)
	d.Mail = append(slices.Clip(d.Mail), extra.Mail...)
	d.Nums = append(slices.Clip(d.Nums), extra.Nums...)
	d.Texts = append(slices.Clip(d.Texts), extra.Texts...)
	return d
}

// alike holds data byte by byte; nil and empty lists are the same.
func alike(a, b api.Data) bool {
	return bytes.Equal(a.Bytes, b.Bytes) && slices.Equal(a.Host, b.Host) && slices.Equal(a.Mail, b.Mail) &&
		slices.Equal(a.Nums, b.Nums) && slices.Equal(a.Texts, b.Texts)
}

// tell is d as text, cut where it is long.
func tell(d api.Data) string {
	s := fmt.Sprint(d)
	return s[:min(len(s), 200)]
}

func TestSound(t *testing.T) {
	for _, c := range samples() {
		if !rdata.Sound(c.kind, c.d) {
			t.Errorf("Sound(%d, %s) is false", c.kind, tell(c.d))
		}
	}
	for _, c := range unsound() {
		if rdata.Sound(c.kind, c.d) {
			t.Errorf("Sound(%d, %s) is true", c.kind, tell(c.d))
		}
	}
}

// Nothing but what the type has may stand in the data.
func TestSoundOfOneFieldMore(t *testing.T) {
	for _, c := range samples() {
		for field, extra := range fields() {
			if strings.Contains(has(c.kind), field) {
				continue
			}
			if d := with(c.d, extra); rdata.Sound(c.kind, d) {
				t.Errorf("Sound(%d, %s) is true with %s", c.kind, tell(d), field)
			}
		}
	}
}

// Names and texts that are no lists at all, or empty ones, are one and the same.
func TestSoundOfEmptyLists(t *testing.T) {
	empty := api.Data{Bytes: []byte{}, Host: []string{}, Mail: []string{}, Nums: []int{}, Texts: []string{}}
	for kind := 1; kind <= 300; kind++ {
		if rdata.Sound(kind, empty) != rdata.Sound(kind, api.Data{}) {
			t.Errorf("%d: empty lists are not as nil ones", kind)
		}
	}
	for _, kind := range []int{api.NS, api.CNAME, api.PTR, 99} {
		if !rdata.Sound(kind, empty) {
			t.Errorf("Sound(%d, empty lists) is false", kind)
		}
	}
}

func TestSoundOfEachType(t *testing.T) {
	sizes := map[int]int{api.A: 4, api.AAAA: 16}
	for kind := 1; kind <= 65535; kind++ {
		for _, size := range []int{0, 1, 4, 16} {
			want := !slices.Contains(named, kind)
			if size == sizes[kind] && size > 0 {
				want = true
			}
			if size == 0 && has(kind) == "Host" {
				want = true // the root
			}
			if got := rdata.Sound(kind, api.Data{Bytes: filled(size)}); got != want {
				t.Fatalf("Sound(%d, %d bytes) is %v", kind, size, got)
			}
		}
		for _, d := range []api.Data{
			{Host: []string{"a"}}, {Host: []string{"a"}, Nums: []int{1}}, {Host: []string{"a"}, Nums: []int{1, 2, 3}},
			{Mail: []string{"a"}, Nums: []int{1, 2, 3, 4, 5}}, {Texts: []string{"a"}},
		} {
			if !slices.Contains(named, kind) && rdata.Sound(kind, d) {
				t.Fatalf("Sound(%d, %v) is true", kind, d)
			}
		}
	}
}

func TestSoundOfNoType(t *testing.T) {
	for _, kind := range noKinds {
		for _, c := range samples() {
			if rdata.Sound(kind, c.d) {
				t.Errorf("Sound(%d, %s) is true", kind, tell(c.d))
			}
		}
	}
}

func TestPut(t *testing.T) {
	for _, c := range samples() {
		w := wname.New()
		if e := rdata.Put(w, c.kind, c.d); e != api.OK || string(w.Bytes()) != c.want {
			t.Errorf("Put(%d, %s): %d, %.300q, not %.300q", c.kind, tell(c.d), e, w.Bytes(), c.want)
		}
	}
}

// What is refused leaves neither bytes nor rests behind.
func TestPutRefused(t *testing.T) {
	refused := unsound()
	for _, kind := range noKinds {
		for _, c := range samples() {
			refused = append(refused, written{kind: kind, d: c.d})
		}
	}
	for _, c := range samples() {
		for field, extra := range fields() {
			if !strings.Contains(has(c.kind), field) {
				refused = append(refused, written{kind: c.kind, d: with(c.d, extra)})
			}
		}
	}
	for _, c := range refused {
		w := wname.New()
		w.Raw([]byte{9})
		if e := rdata.Put(w, c.kind, c.d); e != api.ErrForm || string(w.Bytes()) != "\x09" {
			t.Errorf("Put(%d, %s): %d, %.100q", c.kind, tell(c.d), e, w.Bytes())
		}
		w.Name([]string{"a"}, true)
		if string(w.Bytes()) != "\x09\x01a\x00" {
			t.Errorf("Put(%d, %s) leaves rests: %.100q", c.kind, tell(c.d), w.Bytes())
		}
	}
}

func TestPutToNobody(t *testing.T) {
	for _, c := range append(samples(), unsound()...) {
		if e := rdata.Put(nil, c.kind, c.d); e != api.ErrForm {
			t.Errorf("Put(nil, %d, %s): %d", c.kind, tell(c.d), e)
		}
	}
}

// Behind a name all names but those of SRV are written short.
func TestPutShort(t *testing.T) {
	host := []string{"b", "a"}
	for _, c := range []written{
		{api.NS, api.Data{Host: host}, "\x01b\xc0\x03"},
		{api.CNAME, api.Data{Host: host}, "\x01b\xc0\x03"},
		{api.PTR, api.Data{Host: host}, "\x01b\xc0\x03"},
		{api.PTR, api.Data{Host: []string{"x", "a"}}, "\xc0\x01"},
		{api.MX, api.Data{Host: host, Nums: []int{5}}, "\x00\x05\x01b\xc0\x03"},
		{api.SOA, api.Data{Host: host, Mail: []string{"c", "b", "a"}, Nums: make([]int, 5)}, "\x01b\xc0\x03\x01c\xc0\x06" + strings.Repeat("\x00", 20)},
		{api.SOA, api.Data{Host: []string{"y"}, Mail: []string{"z", "a"}, Nums: make([]int, 5)}, "\x01y\x00\x01z\xc0\x03" + strings.Repeat("\x00", 20)},
		{api.SRV, api.Data{Host: host, Nums: []int{1, 2, 3}}, "\x00\x01\x00\x02\x00\x03\x01b\x01a\x00"},
		{api.SRV, api.Data{Host: []string{"x", "a"}, Nums: []int{1, 2, 3}}, "\x00\x01\x00\x02\x00\x03\x01x\x01a\x00"},
		{api.TXT, api.Data{Texts: []string{"x", "a"}}, "\x01x\x01a"},
		{99, api.Data{Bytes: []byte("\x01x\x01a\x00")}, "\x01x\x01a\x00"},
	} {
		w := wname.New()
		w.Raw([]byte{9})
		w.Name([]string{"x", "a"}, true)
		ahead := string(w.Bytes())
		if e := rdata.Put(w, c.kind, c.d); e != api.OK || string(w.Bytes()) != ahead+c.want {
			t.Errorf("Put(%d, %v): %d, %q, not %q", c.kind, c.d, e, w.Bytes()[len(ahead):], c.want)
		}
		if d, e := rdata.Get(w.Bytes(), len(ahead), len(c.want), c.kind); e != api.OK || !alike(d, c.d) {
			t.Errorf("Get(%q) of %d: %v, %d", w.Bytes(), c.kind, d, e)
		}
	}
}

// Names that Put writes are rests as well, those of SRV too; texts are none.
func TestPutLeavesRests(t *testing.T) {
	w := wname.New()
	for i, e := range []api.Errno{
		rdata.Put(w, api.SRV, api.Data{Nums: []int{1, 2, 3}, Host: []string{"s", "b"}}),
		rdata.Put(w, api.TXT, api.Data{Texts: []string{"t", ""}}),
		w.Name([]string{"t", "b"}, true),
		rdata.Put(w, api.NS, api.Data{Host: []string{"s", "b"}}),
		rdata.Put(w, api.NS, api.Data{Host: []string{"n", "s", "b"}}),
		rdata.Put(w, api.MX, api.Data{Nums: []int{7}, Host: []string{"n", "s", "b"}}),
	} {
		if e != api.OK {
			t.Errorf("call %d: %d", i, e)
		}
	}
	want := "\x00\x01\x00\x02\x00\x03\x01s\x01b\x00" + // s from place 6, b from 8 on
		"\x01t\x00" + "\x01t\xc0\x08" + "\xc0\x06" +
		"\x01n\xc0\x06" + // n from place 20 on
		"\x00\x07\xc0\x14"
	if got := string(w.Bytes()); got != want {
		t.Errorf("%q, not %q", got, want)
	}
}

func TestSame(t *testing.T) {
	for _, c := range []struct {
		a, b api.Data
		want bool
	}{
		{api.Data{}, api.Data{}, true},
		{api.Data{}, api.Data{Bytes: []byte{}, Host: []string{}, Mail: []string{}, Nums: []int{}, Texts: []string{}}, true},
		{api.Data{Bytes: []byte("ab")}, api.Data{Bytes: []byte("ab")}, true},
		{api.Data{Bytes: []byte("ab")}, api.Data{Bytes: []byte("aB")}, false},
		{api.Data{Bytes: []byte("ab")}, api.Data{Bytes: []byte("a")}, false},
		{api.Data{Bytes: []byte("ab")}, api.Data{Bytes: []byte("abc")}, false},
		{api.Data{Bytes: []byte{0}}, api.Data{}, false},
		{api.Data{Host: []string{"a", "B"}}, api.Data{Host: []string{"A", "b"}}, true},
		{api.Data{Host: []string{"a", "b"}}, api.Data{Host: []string{"b", "a"}}, false},
		{api.Data{Host: []string{"a", "b"}}, api.Data{Host: []string{"a"}}, false},
		{api.Data{Host: []string{"a.b"}}, api.Data{Host: []string{"a", "b"}}, false},
		{api.Data{Host: []string{"\xc3\x84"}}, api.Data{Host: []string{"\xc3\xa4"}}, false},
		{api.Data{Host: []string{"a"}}, api.Data{}, false},
		{api.Data{Host: []string{"a"}}, api.Data{Mail: []string{"a"}}, false},
		{api.Data{Mail: []string{"a", "B"}}, api.Data{Mail: []string{"A", "b"}}, true},
		{api.Data{Mail: []string{"a", "b"}}, api.Data{Mail: []string{"a", "c"}}, false},
		{api.Data{Mail: []string{"a"}}, api.Data{}, false},
		{api.Data{Nums: []int{1, 2, 3}}, api.Data{Nums: []int{1, 2, 3}}, true},
		{api.Data{Nums: []int{1, 2, 3}}, api.Data{Nums: []int{1, 2}}, false},
		{api.Data{Nums: []int{1, 2, 3}}, api.Data{Nums: []int{1, 3, 2}}, false},
		{api.Data{Nums: []int{1}}, api.Data{Nums: []int{1 + 1<<32}}, false},
		{api.Data{Nums: []int{0}}, api.Data{}, false},
		{api.Data{Texts: []string{"a", "b"}}, api.Data{Texts: []string{"a", "b"}}, true},
		{api.Data{Texts: []string{"a", "b"}}, api.Data{Texts: []string{"A", "b"}}, false},
		{api.Data{Texts: []string{"a", "b"}}, api.Data{Texts: []string{"b", "a"}}, false},
		{api.Data{Texts: []string{"ab"}}, api.Data{Texts: []string{"a", "b"}}, false},
		{api.Data{Texts: []string{"a"}}, api.Data{Texts: []string{"a", ""}}, false},
		{api.Data{Texts: []string{""}}, api.Data{}, false},
		{api.Data{Texts: []string{"a"}}, api.Data{Host: []string{"a"}}, false},
		// Also of data that are sound for no type.
		{api.Data{Bytes: []byte{1}, Nums: []int{-1}, Host: []string{""}}, api.Data{Bytes: []byte{1}, Nums: []int{-1}, Host: []string{""}}, true},
		{api.Data{Bytes: []byte{1}, Nums: []int{-1}}, api.Data{Bytes: []byte{1}, Nums: []int{1}}, false},
		{api.Data{Host: []string{""}}, api.Data{}, false},
		{api.Data{Host: []string{label(300) + "A"}}, api.Data{Host: []string{label(300) + "a"}}, true},
	} {
		if got := rdata.Same(c.a, c.b); got != c.want {
			t.Errorf("Same(%v, %v) is %v", c.a, c.b, got)
		}
		if got := rdata.Same(c.b, c.a); got != c.want {
			t.Errorf("Same(%v, %v) is %v", c.b, c.a, got)
		}
	}
}

// One field that differs is enough, whichever it is.
func TestSameOfFullData(t *testing.T) {
	full := api.Data{Bytes: []byte{1}, Host: []string{"a"}, Mail: []string{"b"}, Nums: []int{2}, Texts: []string{"c"}}
	if !rdata.Same(full, with(full, api.Data{})) {
		t.Errorf("Same of %v and a copy is false", full)
	}
	for field, extra := range fields() {
		if rdata.Same(full, with(full, extra)) {
			t.Errorf("Same of %v and one with more %s is true", full, field)
		}
	}
	for _, c := range samples() {
		other := with(c.d, api.Data{})
		other.Host, other.Mail = name.Lower(other.Host), name.Lower(other.Mail)
		if !rdata.Same(c.d, other) {
			t.Errorf("Same(%s, %s) is false", tell(c.d), tell(other))
		}
	}
}

// What is handed in has spare room, and is as it was behind every call.
func TestNothingHandedInIsChanged(t *testing.T) {
	for _, c := range append(samples(), unsound()...) {
		if len(c.d.Bytes) > 1000 {
			continue
		}
		d, ahead := roomy(c.d), roomy(c.d)
		rdata.Sound(c.kind, d)
		rdata.Same(d, d)
		w := wname.New()
		rdata.Put(w, c.kind, d)
		rdata.Put(w, c.kind, d)
		if !reflect.DeepEqual(whole(d), whole(ahead)) {
			t.Errorf("%d: %s was changed: %s", c.kind, tell(ahead), tell(d))
		}
		want := string(w.Bytes())
		spoil(d)
		if string(w.Bytes()) != want {
			t.Errorf("%d: Put keeps %s", c.kind, tell(ahead))
		}
	}
}

// roomy answers d with lists that have two places more, which are filled.
func roomy(d api.Data) api.Data {
	return api.Data{
		Bytes: append(append([]byte(nil), d.Bytes...), 5, 5)[:len(d.Bytes)],
		Host:  append(append([]string(nil), d.Host...), "p", "q")[:len(d.Host)],
		Mail:  append(append([]string(nil), d.Mail...), "p", "q")[:len(d.Mail)],
		Nums:  append(append([]int(nil), d.Nums...), 5, 5)[:len(d.Nums)],
		Texts: append(append([]string(nil), d.Texts...), "p", "q")[:len(d.Texts)],
	}
}

// whole answers d with its lists as long as their room.
func whole(d api.Data) api.Data {
	return api.Data{
		Bytes: d.Bytes[:cap(d.Bytes)], Host: d.Host[:cap(d.Host)], Mail: d.Mail[:cap(d.Mail)],
		Nums: d.Nums[:cap(d.Nums)], Texts: d.Texts[:cap(d.Texts)],
	}
}

// spoil writes over all that the lists of d have, their spare room too.
func spoil(d api.Data) {
	d = whole(d)
	for i := range d.Bytes {
		d.Bytes[i] = 99
	}
	for _, list := range [][]string{d.Host, d.Mail, d.Texts} {
		for i := range list {
			list[i] = "spoilt"
		}
	}
	for i := range d.Nums {
		d.Nums[i] = 99
	}
}
