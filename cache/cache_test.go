package cache_test

import (
	"math"
	"reflect"
	"strings"
	"testing"

	"gazetteer/api"
	"gazetteer/cache"
)

// Numbers of the document, written out, so that the tests do not count as the
// package does.
const (
	maxCache = 4096
	maxTime  = 36028797018963968
	maxTTL   = 604800
	maxNeg   = 10800
)

// name answers the labels that s has, without the last point.
func name(s string) []string {
	if s == "" {
		return nil
	}
	return strings.Split(s, ".")
}

func address(last int) api.Data {
	return api.Data{Bytes: []byte{1, 2, byte(last >> 8), byte(last)}}
}

func soa(least int) api.Data {
	return api.Data{Host: name("ns.a"), Mail: name("root.a"), Nums: []int{1, 2, 3, 4, least}}
}

// has is a fact of an address, which tells one fact from another.
func has(n string, last, rank, got, ttl int) api.Fact {
	return api.Fact{Name: name(n), Type: 1, Kind: 1, Rank: rank, Got: got, TTL: ttl, Set: []api.Data{address(last)}}
}

// text is a fact of another type.
func text(n string, rank, got, ttl int) api.Fact {
	return api.Fact{Name: name(n), Type: 16, Kind: 1, Rank: rank, Got: got, TTL: ttl, Set: []api.Data{{Texts: []string{"x", "y"}}}}
}

func noData(n string, kind, rank, got, ttl int) api.Fact {
	return api.Fact{Name: name(n), Type: kind, Kind: 2, Rank: rank, Got: got, TTL: ttl, Soa: soa(7)}
}

func noName(n string, rank, got, ttl int) api.Fact {
	return api.Fact{Name: name(n), Kind: 3, Rank: rank, Got: got, TTL: ttl, Soa: soa(8)}
}

// begin is a cache where nothing is known.
func begin(t *testing.T, most, stale int) *cache.Cache {
	t.Helper()
	c, e := cache.New(most, stale)
	if c == nil || e != api.OK {
		t.Fatalf("New(%d, %d): %v, %d", most, stale, c, e)
	}
	return c
}

// exactly tells whether a and b are the same to the last letter; nil and empty
// lists are one.
func exactly(a, b api.Fact) bool {
	return reflect.DeepEqual(plain(a), plain(b))
}

func plain(f api.Fact) api.Fact {
	f.Name, f.Zone, f.Soa = noEmpty(f.Name), noEmpty(f.Zone), plainData(f.Soa)
	f.Set = noEmpty(f.Set)
	for i, d := range f.Set {
		f.Set[i] = plainData(d)
	}
	return f
}

func plainData(d api.Data) api.Data {
	return api.Data{
		Bytes: noEmpty(d.Bytes), Host: noEmpty(d.Host), Mail: noEmpty(d.Mail), Nums: noEmpty(d.Nums), Texts: noEmpty(d.Texts),
	}
}

func noEmpty[T any](list []T) []T {
	return append([]T(nil), list...)
}

// knows holds that c knows just these, the one that was used longest ago first.
func knows(t *testing.T, c *cache.Cache, want ...api.Fact) {
	t.Helper()
	got := c.All()
	if c.Len() != len(want) {
		t.Errorf("Len is %d, want %d", c.Len(), len(want))
	}
	if len(got) != len(want) {
		t.Errorf("All are %d facts, want %d: %+v", len(got), len(want), got)
		return
	}
	for i := range got {
		if !exactly(got[i], want[i]) {
			t.Errorf("fact %d is %+v, want %+v", i, got[i], want[i])
		}
	}
}

// tells holds an answer of a fact against want; one that is not sound (its Kind
// is 0) stands for none.
func tells(t *testing.T, got api.Fact, ok bool, want api.Fact) {
	t.Helper()
	if ok != (want.Kind != 0) || !exactly(got, want) {
		t.Errorf("%+v, %v, want %+v", got, ok, want)
	}
}

func gets(t *testing.T, c *cache.Cache, n string, kind, now int, want api.Fact) {
	t.Helper()
	f, ok := c.Get(name(n), kind, now)
	tells(t, f, ok, want)
}

func olds(t *testing.T, c *cache.Cache, n string, kind, now int, want api.Fact) {
	t.Helper()
	f, ok := c.Old(name(n), kind, now)
	tells(t, f, ok, want)
}

func looks(t *testing.T, c *cache.Cache, n string, kind int, want api.Fact) {
	t.Helper()
	f, ok := c.Look(name(n), kind)
	tells(t, f, ok, want)
}

// puts holds that Put of f at now is want.
func puts(t *testing.T, c *cache.Cache, f api.Fact, now int, want bool) {
	t.Helper()
	if got := c.Put(f, now); got != want {
		t.Errorf("Put(%+v, %d) is %v", f, now, got)
	}
}

var none = api.Fact{}

func TestNew(t *testing.T) {
	for _, most := range []int{1, 2, 100, maxCache - 1, maxCache} {
		for _, stale := range []int{0, 1, 3600, 1 << 32, maxTime - 1, maxTime} {
			c := begin(t, most, stale)
			knows(t, c)
			gets(t, c, "a", 1, 0, none)
			olds(t, c, "a", 1, 0, none)
			looks(t, c, "a", 1, none)
			if n := c.Flush(nil); n != 0 {
				t.Errorf("%d facts are flushed of none", n)
			}
		}
	}
	refused := func(most, stale int) {
		t.Helper()
		if c, e := cache.New(most, stale); c != nil || e != api.ErrArg {
			t.Errorf("New(%d, %d): %v, %d", most, stale, c, e)
		}
	}
	for _, most := range []int{0, -1, maxCache + 1, 1 << 32, 1<<32 + 1, math.MaxInt, math.MinInt} {
		refused(most, 0)
		refused(most, maxTime)
		refused(most, -1)
	}
	for _, stale := range []int{-1, maxTime + 1, -maxTime, math.MaxInt, math.MinInt} {
		refused(1, stale)
		refused(maxCache, stale)
	}
}

func TestExample(t *testing.T) {
	c := begin(t, 1, 0)
	puts(t, c, has("a", 1, 3, 0, 5), 0, true)
	puts(t, c, has("b", 1, 3, 0, 5), 0, true)
	knows(t, c, has("b", 1, 3, 0, 5))
}

// unsound are facts of a., none of which may be.
func unsound() []api.Fact {
	f := has("a", 1, 3, 5, 9)
	out := []api.Fact{none, f, f, f, f, f, f, f, f, f}
	out[1].Name = name("a..")
	out[2].Type = 41
	out[3].Kind = 4
	out[4].Rank = 5
	out[5].Got = maxTime + 1
	out[6].TTL = maxTTL + 1
	out[7].Set = nil
	out[8].Zone = name("a")
	out[9].Soa = soa(1)
	f = noData("a", 1, 3, 5, maxNeg+1)
	out = append(out, f)
	f = noName("a", 3, 5, 9)
	f.Type = 1
	return append(out, f)
}

func TestPutRefuses(t *testing.T) {
	for _, f := range unsound() {
		c := begin(t, 2, 0)
		puts(t, c, f, 5, false)
		if c.Lay(f) {
			t.Errorf("Lay(%+v)", f)
		}
		knows(t, c)
		first, second := has("a", 1, 1, 5, 9), noName("a", 1, 5, 9)
		puts(t, c, first, 5, true)
		puts(t, c, second, 5, true)
		puts(t, c, f, 5, false)
		if c.Lay(f) {
			t.Errorf("Lay(%+v)", f)
		}
		knows(t, c, first, second)
	}
}

func TestPutWhen(t *testing.T) {
	for _, now := range []int{-1, maxTime + 1, math.MaxInt, math.MinInt} {
		c := begin(t, 2, 0)
		puts(t, c, has("a", 1, 4, 5, 9), now, false)
		knows(t, c)
		puts(t, c, has("a", 1, 1, 5, 0), 5, true)
		puts(t, c, has("a", 2, 4, 5, 9), now, false)
		knows(t, c, has("a", 1, 1, 5, 0))
	}
	// The time matters not where nothing is there, nor does that of the fact.
	for _, now := range []int{0, 1, 1 << 32, maxTime} {
		for _, got := range []int{0, 7, maxTime} {
			c := begin(t, 1, 0)
			puts(t, c, has("a", 1, 1, got, 0), now, true)
			knows(t, c, has("a", 1, 1, got, 0))
		}
	}
}

// What is believed less takes the place of what is believed more just if that is
// fresh no more.
func TestPutByRank(t *testing.T) {
	for old := 1; old <= 4; old++ {
		for rank := 1; rank <= 4; rank++ {
			for now, fresh := range map[int]bool{0: true, 10: true, 14: true, 15: false, 16: false, maxTime: false} {
				c := begin(t, 2, 100)
				is, new := has("a", 1, old, 10, 5), has("A", 2, rank, 11, 7)
				puts(t, c, is, 10, true)
				puts(t, c, text("a", 1, 0, 9), 10, true)
				if rank >= old || !fresh {
					puts(t, c, new, now, true)
					knows(t, c, text("a", 1, 0, 9), new)
				} else {
					puts(t, c, new, now, false)
					knows(t, c, is, text("a", 1, 0, 9))
				}
			}
		}
	}
}

// A fact that a name has records, and one that it has none, are of one Key; one
// that there is no such name is of another, whatever the rank.
func TestPutByKey(t *testing.T) {
	c := begin(t, 9, 0)
	puts(t, c, has("a", 1, 3, 0, 9), 0, true)
	puts(t, c, noData("a", 1, 2, 0, 9), 0, false)
	puts(t, c, noData("a", 16, 2, 0, 9), 0, true)
	puts(t, c, noName("a", 1, 0, 9), 0, true)
	puts(t, c, has("b", 1, 1, 0, 9), 0, true)
	puts(t, c, has("a.b", 1, 1, 0, 9), 0, true)
	puts(t, c, has("", 1, 1, 0, 9), 0, true)
	puts(t, c, noData("A", 1, 3, 0, 9), 0, true)
	puts(t, c, text("A", 1, 0, 9), 0, false)
	puts(t, c, text("A", 2, 0, 9), 0, true)
	puts(t, c, has("a", 1, 2, 0, 9), 0, false)
	knows(t, c, noName("a", 1, 0, 9), has("b", 1, 1, 0, 9), has("a.b", 1, 1, 0, 9), has("", 1, 1, 0, 9), noData("A", 1, 3, 0, 9), text("A", 2, 0, 9))
	// One label with a point is not two.
	f := has("a", 7, 1, 0, 9)
	f.Name = []string{"a.b"}
	puts(t, c, f, 0, true)
	looks(t, c, "a.b", 1, has("a.b", 1, 1, 0, 9))
}

func TestLayTakesAnyPlace(t *testing.T) {
	for rank := 1; rank <= 4; rank++ {
		c := begin(t, 2, 0)
		for _, f := range []api.Fact{has("a", 1, 4, 0, maxTTL), text("a", 4, 0, maxTTL), has("A", 2, rank, maxTime, 0)} {
			if !c.Lay(f) {
				t.Errorf("Lay(%+v) is false", f)
			}
		}
		knows(t, c, text("a", 4, 0, maxTTL), has("A", 2, rank, maxTime, 0))
		if !c.Lay(noData("a", 1, rank, 3, maxNeg)) || !c.Lay(has("b", 1, 1, 0, 0)) {
			t.Error("Lay is false")
		}
		knows(t, c, noData("a", 1, rank, 3, maxNeg), has("b", 1, 1, 0, 0))
	}
}

// Whoever is taken, refused, got, old or looked at: the one that was used longest
// ago goes.
func TestUse(t *testing.T) {
	a, b, d := has("a", 1, 3, 10, 5), has("b", 1, 3, 10, 5), has("d", 1, 3, 10, 5)
	for _, x := range []struct {
		what string
		do   func(c *cache.Cache)
		used bool // was a used by that?
	}{
		{"nothing", func(c *cache.Cache) {}, false},
		{"Put", func(c *cache.Cache) { c.Put(a, 10) }, true},
		{"Put of less", func(c *cache.Cache) { c.Put(has("a", 1, 2, 10, 5), 10) }, false},
		{"Put at no time", func(c *cache.Cache) { c.Put(a, -1) }, false},
		{"Lay", func(c *cache.Cache) { c.Lay(a) }, true},
		{"Get", func(c *cache.Cache) { c.Get(name("A"), 1, 14) }, true},
		{"Get of what is over", func(c *cache.Cache) { c.Get(name("a"), 1, 15) }, false},
		{"Get of another type", func(c *cache.Cache) { c.Get(name("a"), 2, 14) }, false},
		{"Get of type 0", func(c *cache.Cache) { c.Get(name("a"), 0, 14) }, false},
		{"Old", func(c *cache.Cache) { c.Old(name("A"), 1, 15) }, true},
		{"Old of what is fresh", func(c *cache.Cache) { c.Old(name("a"), 1, 14) }, false},
		{"Old of what is gone", func(c *cache.Cache) { c.Old(name("a"), 1, 18) }, false},
		{"Look", func(c *cache.Cache) { c.Look(name("a"), 1) }, false},
		{"All", func(c *cache.Cache) { c.All() }, false},
		{"Len", func(c *cache.Cache) { c.Len() }, false},
		{"Flush of others", func(c *cache.Cache) { c.Flush(name("x.a")) }, false},
		{"use of a copy", func(c *cache.Cache) { c.Copy().Get(name("a"), 1, 14) }, false},
	} {
		c := begin(t, 2, 3)
		c.Put(a, 10)
		c.Put(b, 10)
		x.do(c)
		want := []api.Fact{a, b}
		if x.used {
			want = []api.Fact{b, a}
		}
		knows(t, c, want...)
		puts(t, c, d, 10, true)
		knows(t, c, want[1], d)
		if t.Failed() {
			t.Fatal("behind ", x.what)
		}
	}
}

// The one that goes goes whatever it is: fresh, or believed more.
func TestMost(t *testing.T) {
	for _, most := range []int{1, 2, 3, 7, 100, maxCache} {
		c := begin(t, most, 0)
		var want []api.Fact
		for i := range most + 3 {
			f := has("a", i, 1+i%4, i, 9*(i%2))
			f.Type = 300 + i
			puts(t, c, f, i, true)
			want = append(want, f)
			want = want[max(0, len(want)-most):]
			if c.Len() != len(want) {
				t.Fatalf("most %d: %d facts behind %d", most, c.Len(), i+1)
			}
		}
		knows(t, c, want...)
		// In a place that is there nobody has to go.
		f := want[0]
		f.Rank = 4
		puts(t, c, f, 5000, true)
		knows(t, c, append(want[1:], f)...)
	}
}

func TestGet(t *testing.T) {
	c := begin(t, 9, 100)
	f := has("www.A", 1, 1, 10, 5)
	puts(t, c, f, 10, true)
	for now, want := range map[int]api.Fact{
		0: f, 9: f, 10: f, 11: f, 14: f, 15: none, 16: none, 100: none, maxTime: none,
		-1: none, maxTime + 1: none, math.MinInt: none, math.MaxInt: none,
	} {
		gets(t, c, "www.a", 1, now, want)
		gets(t, c, "WWW.a", 1, now, want)
	}
	for _, n := range []string{"", "a", "ww.a", "x.www.a", "www.a.", "www", "www.b", "www.a.a"} {
		gets(t, c, n, 1, 10, none)
	}
	for _, kind := range []int{0, 2, 16, 257, 65537, -1, 1<<32 + 1, math.MinInt, math.MaxInt} {
		gets(t, c, "www.a", kind, 10, none)
	}
	long := has("a", 1, 1, maxTime, maxTTL)
	puts(t, c, long, 0, true)
	gets(t, c, "a", 1, maxTime, long)
	// Without a second there is no time at which it is fresh.
	puts(t, c, has("b", 1, 1, 10, 0), 10, true)
	for now := range 20 {
		gets(t, c, "b", 1, now, none)
	}
}

// Of a name that is not there it tells of each type that a fact may have, and of
// no other.
func TestGetNoName(t *testing.T) {
	c := begin(t, 9, 100)
	f := noName("a", 1, 10, 5)
	puts(t, c, f, 10, true)
	for kind := -3; kind < 65600; kind++ {
		want, old := f, f
		if kind < 1 || kind > 65534 || kind == 41 || kind == 255 {
			want, old = none, none
		}
		gets(t, c, "A", kind, 14, want)
		olds(t, c, "A", kind, 15, old)
	}
	for _, kind := range []int{1<<32 + 1, 1 << 32, -1 << 32, math.MinInt, math.MaxInt, 65536 + 41} {
		gets(t, c, "a", kind, 14, none)
		olds(t, c, "a", kind, 15, none)
	}
	gets(t, c, "a", 1, 15, none)
	gets(t, c, "a", 1, -1, none)
	gets(t, c, "x.a", 1, 14, none)
	gets(t, c, "", 1, 14, none)
	looks(t, c, "a", 0, f)
	looks(t, c, "a", 1, none)
}

// Of two facts the one of the type is told ahead of the other.
func TestGetOfTwo(t *testing.T) {
	for _, f := range []api.Fact{has("a", 1, 1, 10, 5), noData("a", 1, 1, 10, 5)} {
		for _, n := range []api.Fact{noName("A", 4, 10, 3), noName("A", 4, 10, 8)} {
			for now := 5; now < 45; now++ {
				c := begin(t, 2, 10)
				puts(t, c, f, 10, true)
				puts(t, c, n, 10, true)
				want, old := none, none
				switch {
				case now < 15:
					want = f
				case now < 10+n.TTL:
					want = n
				case now < 25:
					old = f
				case now < 20+n.TTL:
					old = n
				}
				gets(t, c, "a", 1, now, want)
				olds(t, c, "a", 1, now, old)
				if want.Type+old.Type > 0 {
					knows(t, c, n, f)
				} else {
					knows(t, c, f, n)
				}
				// Of another type there is that of the name alone.
				want, old = none, none
				switch {
				case now < 10+n.TTL:
					want = n
				case now < 20+n.TTL:
					old = n
				}
				gets(t, c, "a", 16, now, want)
				olds(t, c, "a", 16, now, old)
			}
		}
	}
}

func TestOld(t *testing.T) {
	c := begin(t, 9, 3)
	f := has("www.A", 1, 1, 10, 5)
	puts(t, c, f, 10, true)
	for now, want := range map[int]api.Fact{
		0: none, 10: none, 14: none, 15: f, 16: f, 17: f, 18: none, 100: none, maxTime: none,
		-1: none, maxTime + 1: none, math.MinInt: none, math.MaxInt: none,
	} {
		olds(t, c, "www.a", 1, now, want)
		olds(t, c, "WWW.a", 1, now, want)
		olds(t, c, "a", 1, now, none)
		olds(t, c, "www.a", 2, now, none)
	}
	// One without a second is old up to its end and the window.
	f = has("b", 1, 1, 10, 0)
	puts(t, c, f, 10, true)
	for now := range 20 {
		want := f
		if now > 12 {
			want = none
		}
		olds(t, c, "b", 1, now, want)
	}
	c = begin(t, 9, 0)
	puts(t, c, has("a", 1, 1, 10, 5), 10, true)
	for now := range 20 {
		olds(t, c, "a", 1, now, none)
	}
	c = begin(t, 9, maxTime)
	f = has("a", 1, 1, 0, 0)
	puts(t, c, f, 0, true)
	olds(t, c, "a", 1, maxTime-1, f)
	olds(t, c, "a", 1, maxTime, none)
	f.Got = maxTime
	puts(t, c, f, 0, true)
	olds(t, c, "a", 1, maxTime, f)
}

func TestLook(t *testing.T) {
	c := begin(t, 9, 0)
	list := []api.Fact{has("a", 1, 1, 10, 0), noName("a", 1, 10, 0), noData("A", 16, 1, maxTime, 0), has("", 1, 1, 0, 0)}
	for _, f := range list {
		puts(t, c, f, 0, true)
	}
	looks(t, c, "A", 1, list[0])
	looks(t, c, "a", 0, list[1])
	looks(t, c, "a", 16, list[2])
	looks(t, c, "", 1, list[3])
	looks(t, c, "", 0, none)
	looks(t, c, "b", 1, none)
	looks(t, c, "b.a", 1, none)
	for _, kind := range []int{2, -1, 41, 255, 65536, 65535, 1<<32 + 1, 1 << 32, math.MinInt, math.MaxInt} {
		looks(t, c, "a", kind, none)
	}
	knows(t, c, list...)
}

// What is no name is none of those that are there, whatever its text.
func TestNoNames(t *testing.T) {
	c := begin(t, 9, 100)
	for _, n := range []string{"", "a", "a.b"} {
		puts(t, c, has(n, 1, 1, 10, 5), 10, true)
		puts(t, c, noName(n, 1, 10, 5), 10, true)
	}
	l63 := strings.Repeat("x", 63)
	for _, n := range [][]string{
		{""}, {"", ""}, {"a", ""}, {"", "a"}, {"a", "", "b"}, {l63 + "x"}, {l63, l63, l63, l63}, make([]string, 100000),
		{"a."}, {"a.b"}, {"."}, {".a"},
	} {
		for kind := range 3 {
			f, ok := c.Get(n, kind, 10)
			tells(t, f, ok, none)
			f, ok = c.Old(n, kind, 15)
			tells(t, f, ok, none)
			f, ok = c.Look(n, kind)
			tells(t, f, ok, none)
		}
		if got := c.Flush(n); got != 0 {
			t.Errorf("%d facts are under %q", got, n)
		}
	}
	if c.Len() != 6 {
		t.Errorf("%d facts are left", c.Len())
	}
}

func TestFlush(t *testing.T) {
	list := []api.Fact{
		has("", 1, 1, 0, 0), has("a", 1, 4, 10, 5), text("a", 1, 0, 0), noName("A", 1, 0, 0), has("b.a", 1, 1, 0, 0), noData("c.B.a", 1, 1, 0, 9),
		has("b", 1, 1, 0, 0), has("a.b", 1, 1, 0, 0), has("ba", 1, 1, 0, 0),
	}
	for zone, gone := range map[string][]int{
		"": {0, 1, 2, 3, 4, 5, 6, 7, 8}, "a": {1, 2, 3, 4, 5}, "A": {1, 2, 3, 4, 5}, "B.a": {4, 5}, "c.b.a": {5},
		"b": {6, 7}, "a.b": {7}, "ba": {8}, "c": nil, "c.a": nil, "x.a": nil, "b.b": nil, "d.c.b.a": nil, ".": nil,
	} {
		c := begin(t, 20, 0)
		var left []api.Fact
		for i, f := range list {
			puts(t, c, f, 0, true)
			stays := true
			for _, x := range gone {
				stays = stays && x != i
			}
			if stays {
				left = append(left, f)
			}
		}
		if n := c.Flush(name(zone)); n != len(gone) {
			t.Errorf("Flush of %q: %d, want %d", zone, n, len(gone))
		}
		knows(t, c, left...)
		if n := c.Flush(name(zone)); n != 0 {
			t.Errorf("Flush of %q once more: %d", zone, n)
		}
		// What is gone is not there for whoever comes.
		for _, x := range gone {
			f := list[x]
			f.Rank = 1
			puts(t, c, f, 0, true)
			left = append(left, f)
		}
		knows(t, c, left...)
	}
}

// Room that a Flush made is there for others.
func TestFlushMakesRoom(t *testing.T) {
	c := begin(t, 2, 0)
	a, b, d := has("a", 1, 1, 0, 5), has("b", 1, 1, 0, 5), has("d", 1, 1, 0, 5)
	puts(t, c, a, 0, true)
	puts(t, c, b, 0, true)
	c.Flush(name("b"))
	puts(t, c, d, 0, true)
	knows(t, c, a, d)
	puts(t, c, b, 0, true)
	knows(t, c, d, b)
}

func TestNil(t *testing.T) {
	for _, c := range []*cache.Cache{nil, {}, new(cache.Cache).Copy()} {
		puts(t, c, has("a", 1, 4, 0, 5), 0, false)
		if c.Lay(has("a", 1, 4, 0, 5)) {
			t.Error("Lay is true")
		}
		gets(t, c, "a", 1, 0, none)
		olds(t, c, "a", 1, 5, none)
		looks(t, c, "a", 1, none)
		if n := c.Flush(nil); n != 0 {
			t.Errorf("Flush is %d", n)
		}
		knows(t, c)
		if copied := c.Copy(); (copied == nil) != (c == nil) {
			t.Errorf("Copy is %v", copied)
		}
	}
}
