package code_test

import (
	"bytes"
	"fmt"
	"math"
	"reflect"
	"slices"
	"strings"
	"testing"

	"gazetteer/api"
	"gazetteer/code"
	"gazetteer/fact"
)

// Numbers of the document, written out, so that the tests do not count as the
// package does.
const (
	maxTTL    = 604800
	maxNeg    = 10800
	maxTime   = 36028797018963968
	maxSet    = 64
	maxRecord = 16384
)

// written is an entry, and its bytes.
type written struct {
	x    code.Entry
	want string
}

// name answers the labels that s has, without the last point.
func name(s string) []string {
	if s == "" {
		return nil
	}
	return strings.Split(s, ".")
}

func label(size int) string {
	return strings.Repeat("x", size)
}

// longest is a name of as many bytes as one may have.
func longest() []string {
	return []string{label(63), label(63), label(63), label(61)}
}

func longestWritten() string {
	return "\x3f" + label(63) + "\x3f" + label(63) + "\x3f" + label(63) + "\x3d" + label(61) + "\x00"
}

func address(last int) api.Data {
	return api.Data{Bytes: []byte{1, 2, byte(last >> 8), byte(last)}}
}

func host(s string) api.Data {
	return api.Data{Host: name(s)}
}

func soa(least int) api.Data {
	return api.Data{Host: name("ns.a"), Mail: name("m.a"), Nums: []int{1, 2, 3, 4, least}}
}

// soaWritten is soa of a number below 256: a pointer leads to a, 3 bytes behind
// the data's beginning.
func soaWritten(least byte) string {
	return "\x00\x1e\x02ns\x01a\x00\x01m\xc0\x03" +
		"\x00\x00\x00\x01\x00\x00\x00\x02\x00\x00\x00\x03\x00\x00\x00\x04\x00\x00\x00" + string([]byte{least})
}

// has is a fact of records, with Got 5 and TTL 6.
func has(n string, kind int, set ...api.Data) api.Fact {
	return api.Fact{Name: name(n), Type: kind, Kind: api.Has, Rank: 4, Got: 5, TTL: 6, Set: set}
}

func noData(n string, kind int, zone string, soa api.Data) api.Fact {
	return api.Fact{Name: name(n), Type: kind, Kind: api.NoData, Rank: 2, Got: 5, TTL: 6, Zone: name(zone), Soa: soa}
}

func noName(n string, zone string, soa api.Data) api.Fact {
	return api.Fact{Name: name(n), Kind: api.NoName, Rank: 2, Got: 5, TTL: 6, Zone: name(zone), Soa: soa}
}

func known(f api.Fact) code.Entry {
	return code.Entry{Kind: 1, Fact: f}
}

func flushed(zone []string) code.Entry {
	return code.Entry{Kind: 2, Zone: zone}
}

func clock(now int) code.Entry {
	return code.Entry{Kind: 3, Time: now}
}

// behindType is what stands between the type of a fact of has and its data.
const behindType = "\x01\x04\x00\x00\x00\x00\x00\x00\x05\x00\x00\x00\x06"

// behindNot is that of facts of nothing, behind their kind.
const behindNot = "\x02\x00\x00\x00\x00\x00\x00\x05\x00\x00\x00\x06"

// samples are entries of all kinds, and facts of all kinds and types, at their
// edges too.
func samples() []written {
	full := has("a", api.A)
	all := "\x40"
	for i := range maxSet {
		full.Set = append(full.Set, address(i))
		all += "\x00\x04\x01\x02\x00" + string([]byte{byte(i)})
	}
	edges := has("a", 65534, api.Data{})
	edges.Rank, edges.Got, edges.TTL = 1, maxTime, maxTTL
	zeros := has("", 1, address(0))
	zeros.Got, zeros.TTL = 0, 0
	old := noName("A", "a", soa(0))
	old.Got, old.TTL = 1<<48+2, maxNeg
	list := []written{
		{flushed(nil), "\x02\x00"},
		{flushed(name("www.Example")), "\x02\x03www\x07Example\x00"},
		{flushed([]string{"a.b", "\x00", "\xff"}), "\x02\x03a.b\x01\x00\x01\xff\x00"},
		{flushed(name("a.b.a.b")), "\x02\x01a\x01b\x01a\x01b\x00"},
		{flushed(longest()), "\x02" + longestWritten()},
		{clock(0), "\x03\x00\x00\x00\x00\x00\x00\x00"},
		{clock(1), "\x03\x00\x00\x00\x00\x00\x00\x01"},
		{clock(0x01020304050607), "\x03\x01\x02\x03\x04\x05\x06\x07"},
		{clock(maxTime), "\x03\x80\x00\x00\x00\x00\x00\x00"},
		{known(full), "\x01\x01a\x00\x00\x01" + behindType + all},
		{known(edges), "\x01\x01a\x00\xff\xfe\x01\x01\x80\x00\x00\x00\x00\x00\x00\x00\x09\x3a\x80\x01\x00\x00"},
		{known(zeros), "\x01\x00\x00\x01\x01\x04" + strings.Repeat("\x00", 11) + "\x01\x00\x04\x01\x02\x00\x00"},
		{known(old), "\x01\x01A\x00\x00\x00\x03\x02\x01\x00\x00\x00\x00\x00\x02\x00\x00\x2a\x30\x01a\x00" + soaWritten(0)},
		{known(noName("a.a", "a", soa(9))), "\x01\x01a\x01a\x00\x00\x00\x03" + behindNot + "\x01a\x00" + soaWritten(9)},
		{known(noData("b.a", api.A, "", soa(7))), "\x01\x01b\x01a\x00\x00\x01\x02" + behindNot + "\x00" + soaWritten(7)},
		{known(noData("", 300, "", api.Data{Nums: []int{0, 0, 0, 0, 0}})),
			"\x01\x00\x01\x2c\x02" + behindNot + "\x00\x00\x16" + strings.Repeat("\x00", 22)},
	}
	for kind, said := range ofTypes() {
		list = append(list, written{known(has("a", kind, said.d...)),
			"\x01\x01a\x00" + string([]byte{byte(kind >> 8), byte(kind)}) + behindType + said.want})
	}
	return list
}

// said is a set, and its bytes.
type said struct {
	d    []api.Data
	want string
}

// ofTypes are sets of all types that have parts of their own, and of one more. No
// data has a pointer to another, nor to what stands ahead.
func ofTypes() map[int]said {
	return map[int]said{
		api.A:     {[]api.Data{address(2), address(1)}, "\x02\x00\x04\x01\x02\x00\x02\x00\x04\x01\x02\x00\x01"},
		api.AAAA:  {[]api.Data{{Bytes: make([]byte, 16)}}, "\x01\x00\x10" + strings.Repeat("\x00", 16)},
		api.NS:    {[]api.Data{host("b.a"), host("c.b.a")}, "\x02\x00\x05\x01b\x01a\x00\x00\x07\x01c\x01b\x01a\x00"},
		api.CNAME: {[]api.Data{host("A")}, "\x01\x00\x03\x01A\x00"},
		api.PTR:   {[]api.Data{host("")}, "\x01\x00\x01\x00"},
		api.SOA:   {[]api.Data{soa(3)}, "\x01" + soaWritten(3)},
		api.MX: {[]api.Data{{Nums: []int{1}, Host: name("b.a")}, {Nums: []int{258}, Host: name("b.a")}},
			"\x02\x00\x07\x00\x01\x01b\x01a\x00\x00\x07\x01\x02\x01b\x01a\x00"},
		api.TXT: {[]api.Data{{Texts: []string{"x", ""}}, {Texts: []string{""}}}, "\x02\x00\x03\x01x\x00\x00\x01\x00"},
		api.SRV: {[]api.Data{{Nums: []int{1, 2, 3}, Host: name("a.a")}}, "\x01\x00\x0b\x00\x01\x00\x02\x00\x03\x01a\x01a\x00"},
		99:      {[]api.Data{{Bytes: []byte("\x01a\x00")}, {}}, "\x02\x00\x03\x01a\x00\x00\x00"},
	}
}

// unsound are entries that have not just what their kinds need.
func unsound() []code.Entry {
	var list []code.Entry
	for _, kind := range []int{0, -1, -2, -3, 4, 5, 255, 256, 257, 258, 259, 1<<32 + 1, 1<<32 + 2, 1<<32 + 3, math.MaxInt, math.MinInt} {
		for _, x := range append(samples(), written{}) {
			x.x.Kind = kind
			list = append(list, x.x)
		}
	}
	for _, now := range []int{-1, -2, maxTime + 1, maxTime + 2, 1 << 56, math.MaxInt, math.MinInt} {
		list = append(list, clock(now))
	}
	for _, n := range notNames() {
		list = append(list, flushed(n))
	}
	for _, f := range notFacts() {
		list = append(list, known(f))
	}
	return append(list, withMore()...)
}

func notNames() [][]string {
	return [][]string{
		{""}, {"a", ""}, {"", "a"}, {label(64)}, {"a", label(256)}, {label(63), label(63), label(63), label(62)},
		slices.Repeat([]string{"a"}, 128),
	}
}

// notFacts are facts that are not sound; some would fit into their bytes, others
// would come round to such that do.
func notFacts() []api.Fact {
	list := []api.Fact{{}}
	add := func(change func(f *api.Fact)) {
		for _, f := range []api.Fact{has("a", api.A, address(1)), noData("a", api.A, "", soa(1)), noName("a", "", soa(1))} {
			change(&f)
			list = append(list, f)
		}
	}
	for _, n := range notNames() {
		add(func(f *api.Fact) { f.Name = n })
	}
	for _, n := range []int{-1, -255, 0, 5, 256 + 1, 1<<32 + 1, math.MaxInt, math.MinInt} {
		add(func(f *api.Fact) { f.Kind = n })
		add(func(f *api.Fact) { f.Rank = n })
	}
	for _, n := range []int{-1, -65535, 65535, 65536, 65536 + 1, 1<<32 + 1, math.MaxInt, math.MinInt, api.OPT, api.ANY} {
		add(func(f *api.Fact) { f.Type = n })
	}
	for _, n := range []int{-1, maxTime + 1, 1 << 56, math.MaxInt, math.MinInt} {
		add(func(f *api.Fact) { f.Got = n })
	}
	for _, n := range []int{-1, maxTTL + 1, 1 << 32, math.MaxInt, math.MinInt} {
		add(func(f *api.Fact) { f.TTL = n })
	}
	add(func(f *api.Fact) { f.Set = append(f.Set, address(1)) })
	add(func(f *api.Fact) { f.Set, f.Zone = nil, name("b") })
	add(func(f *api.Fact) { f.Zone, f.Soa = name("a"), address(1) })
	large := has("a", api.A)
	for i := range maxSet + 1 {
		large.Set = append(large.Set, address(i))
	}
	return append(list, large)
}

// withMore are sound entries with something beside what their kinds need.
func withMore() []code.Entry {
	var list []code.Entry
	for _, zone := range [][]string{{"a"}, {""}} {
		for _, x := range []code.Entry{known(has("a", api.A, address(1))), clock(5), clock(0)} {
			x.Zone = zone
			list = append(list, x)
		}
	}
	for _, now := range []int{1, -1, maxTime} {
		for _, x := range []code.Entry{known(has("a", api.A, address(1))), flushed(name("a")), flushed(nil)} {
			x.Time = now
			list = append(list, x)
		}
	}
	for _, f := range parts() {
		for _, x := range []code.Entry{flushed(name("a")), flushed(nil), clock(5), clock(0)} {
			x.Fact = f
			list = append(list, x)
		}
	}
	return list
}

// parts are facts that have something, most of them one field alone.
func parts() []api.Fact {
	return []api.Fact{
		has("a", api.A, address(1)),
		{Name: name("a")}, {Name: []string{""}}, {Type: 1}, {Kind: 1}, {Kind: 3}, {Rank: 1}, {Got: 1}, {TTL: 1},
		{Type: -1}, {Kind: -1}, {Rank: -1}, {Got: -1}, {TTL: -1},
		{Set: []api.Data{{}}}, {Zone: name("a")}, {Zone: []string{""}},
		{Soa: api.Data{Bytes: []byte{0}}}, {Soa: host("a")}, {Soa: api.Data{Mail: name("a")}},
		{Soa: api.Data{Nums: []int{0}}}, {Soa: api.Data{Texts: []string{""}}},
	}
}

// tell is x as text, cut where it is long.
func tell(x any) string {
	s := fmt.Sprintf("%+v", x)
	return s[:min(len(s), 300)]
}

// exactly holds entries field by field; nil and empty lists are the same.
func exactly(a, b code.Entry) bool {
	return reflect.DeepEqual(bare(a), bare(b))
}

// bare answers x with nil in place of empty lists.
func bare(x code.Entry) code.Entry {
	x.Zone = none(x.Zone)
	x.Fact.Name, x.Fact.Zone = none(x.Fact.Name), none(x.Fact.Zone)
	x.Fact.Soa, x.Fact.Set = bareData(x.Fact.Soa), none(x.Fact.Set)
	for i, d := range x.Fact.Set {
		x.Fact.Set[i] = bareData(d)
	}
	return x
}

func bareData(d api.Data) api.Data {
	return api.Data{Bytes: none(d.Bytes), Host: none(d.Host), Mail: none(d.Mail), Nums: none(d.Nums), Texts: none(d.Texts)}
}

func none[T any](list []T) []T {
	if len(list) == 0 {
		return nil
	}
	return slices.Clone(list)
}

// encodes checks that x is sound, and that its bytes are want.
func encodes(t *testing.T, x code.Entry, want string) {
	t.Helper()
	if !code.Sound(x) {
		t.Errorf("Sound(%s) is false", tell(x))
	}
	if b, e := code.Encode(x); e != api.OK || string(b) != want {
		t.Errorf("Encode(%s): %.300q, %d, not %.300q", tell(x), b, e, want)
	}
}

// refuses checks that Encode answers an error and nothing beside it.
func refuses(t *testing.T, x code.Entry, want api.Errno) {
	t.Helper()
	if b, e := code.Encode(x); e != want || len(b) > 0 {
		t.Errorf("Encode(%s): %.300q, %d, not %d", tell(x), b, e, want)
	}
}

func TestEncode(t *testing.T) {
	for _, c := range samples() {
		encodes(t, c.x, c.want)
	}
}

func TestUnsound(t *testing.T) {
	for _, x := range unsound() {
		if code.Sound(x) {
			t.Errorf("Sound(%s) is true", tell(x))
		}
		refuses(t, x, api.ErrForm)
	}
}

// Which facts may be is told by their own layer.
func TestSoundAsItsFact(t *testing.T) {
	for _, c := range samples() {
		if c.x.Kind == 1 && !fact.Sound(c.x.Fact) {
			t.Errorf("no sound fact: %s", tell(c.x))
		}
	}
	for _, f := range notFacts() {
		if fact.Sound(f) {
			t.Errorf("a sound fact: %s", tell(f))
		}
	}
}

// Each type that a fact may have is told with its two bytes.
func TestEncodeEachType(t *testing.T) {
	own := ofTypes()
	for kind := 0; kind <= 65536; kind++ {
		set := []api.Data{{Bytes: []byte{7}}}
		if s, ok := own[kind]; ok {
			set = s.d
		}
		x := known(has("", kind, set...))
		b, e := code.Encode(x)
		if kind == 0 || kind == api.OPT || kind == api.ANY || kind > 65534 {
			if e != api.ErrForm || code.Sound(x) {
				t.Fatalf("Encode of the type %d: %d", kind, e)
			}
			continue
		}
		if e != api.OK || !code.Sound(x) || int(b[2])<<8|int(b[3]) != kind {
			t.Fatalf("Encode of the type %d: %q, %d", kind, b, e)
		}
		if y, e := code.Decode(b); e != api.OK || !exactly(x, y) {
			t.Fatalf("Decode of the type %d: %s, %d", kind, tell(y), e)
		}
	}
}

// Lists without anything in them are as good as none.
func TestEmptyLists(t *testing.T) {
	empty := api.Data{Bytes: []byte{}, Host: []string{}, Mail: []string{}, Nums: []int{}, Texts: []string{}}
	nothing := api.Fact{Name: []string{}, Set: []api.Data{}, Zone: []string{}, Soa: empty}
	encodes(t, code.Entry{Kind: 2, Fact: nothing, Zone: []string{}}, "\x02\x00")
	encodes(t, code.Entry{Kind: 3, Fact: nothing, Zone: []string{}}, "\x03\x00\x00\x00\x00\x00\x00\x00")
	f := has("", 99, empty)
	f.Name, f.Zone, f.Soa = []string{}, []string{}, empty
	encodes(t, code.Entry{Kind: 1, Fact: f, Zone: []string{}}, "\x01\x00\x00\x63"+behindType+"\x01\x00\x00")
}

// filled is a fact of the type 99 with the name a, whose bytes are size, all of
// them in one data, or in some more.
func filled(size, more int) api.Fact {
	f := has("a", 99)
	for i := range more {
		f.Set = append(f.Set, api.Data{Bytes: []byte{byte(i)}})
	}
	at := 20 + 3*more + 2
	f.Set = append(f.Set, api.Data{Bytes: bytes.Repeat([]byte{7}, size-at)})
	return f
}

func TestEncodeLarge(t *testing.T) {
	for _, more := range []int{0, 1, 63} {
		for _, size := range []int{300, maxRecord - 1, maxRecord} {
			x := known(filled(size, more))
			b, e := code.Encode(x)
			if e != api.OK || len(b) != size {
				t.Errorf("Encode of %d bytes: %d bytes, %d", size, len(b), e)
			}
			if y, e := code.Decode(b); e != api.OK || !exactly(x, y) {
				t.Errorf("Decode of %d bytes: %s, %d", size, tell(y), e)
			}
		}
		for _, size := range []int{maxRecord + 1, maxRecord + 2, 2 * maxRecord, 65535 + 22 + 3*more} {
			x := known(filled(size, more))
			if !code.Sound(x) {
				t.Errorf("no sound fact of %d bytes", size)
			}
			refuses(t, x, api.ErrLarge)
		}
	}
	// ErrForm comes ahead of ErrLarge.
	x := known(filled(maxRecord+1, 0))
	x.Time = 1
	refuses(t, x, api.ErrForm)
	x = known(filled(65535+22+1, 0))
	refuses(t, x, api.ErrForm)
}

// Of what is large by many data, none is.
func TestEncodeManyLarge(t *testing.T) {
	f := has("a", 99)
	for i := range maxSet {
		b := bytes.Repeat([]byte{byte(i)}, 65535)
		f.Set = append(f.Set, api.Data{Bytes: b})
	}
	refuses(t, known(f), api.ErrLarge)
	texts := has("a", api.TXT, api.Data{Texts: slices.Repeat([]string{label(255)}, 64)})
	refuses(t, known(texts), api.ErrLarge)
	texts.Set[0].Texts = texts.Set[0].Texts[:63]
	if b, e := code.Encode(known(texts)); e != api.OK || len(b) != 22+63*256 {
		t.Errorf("Encode of 63 texts: %d bytes, %d", len(b), e)
	}
}
