package fact_test

import (
	"math"
	"strings"
	"testing"

	"gazetteer/api"
	"gazetteer/fact"
)

// Numbers of the document, written out, so that the tests do not count as the
// package does.
const (
	maxTTL  = 604800
	maxNeg  = 10800
	maxTime = 36028797018963968
	maxSet  = 64
	maxHops = 16
	now     = 9
)

// name answers the labels that s has, without the last point.
func name(s string) []string {
	if s == "" {
		return nil
	}
	return strings.Split(s, ".")
}

func address(last int) api.Data {
	return api.Data{Bytes: []byte{1, 2, byte(last >> 8), byte(last)}}
}

func long(last byte) api.Data {
	return api.Data{Bytes: append(make([]byte, 15), last)}
}

func host(s string) api.Data {
	return api.Data{Host: name(s)}
}

func soa(least int) api.Data {
	return api.Data{Host: name("ns.a"), Mail: name("root.a"), Nums: []int{1, 2, 3, 4, least}}
}

// has is a fact of records, as From would tell it at now.
func has(n string, kind, rank, ttl int, set ...api.Data) api.Fact {
	return api.Fact{Name: name(n), Type: kind, Kind: api.Has, Rank: rank, Got: now, TTL: ttl, Set: set}
}

func noData(n string, kind, rank, ttl int, zone string, soa api.Data) api.Fact {
	return api.Fact{Name: name(n), Type: kind, Kind: api.NoData, Rank: rank, Got: now, TTL: ttl, Zone: name(zone), Soa: soa}
}

func noName(n string, rank, ttl int, zone string, soa api.Data) api.Fact {
	return api.Fact{Name: name(n), Kind: api.NoName, Rank: rank, Got: now, TTL: ttl, Zone: name(zone), Soa: soa}
}

// examples are sound, one of each kind.
func examples() []api.Fact {
	return []api.Fact{
		has("www.a", api.A, api.RankAnswer, 60, address(4), address(5)),
		noData("www.a", api.A, api.RankAuth, 60, "a", soa(60)),
		noName("www.a", api.RankAuth, 60, "a", soa(60)),
	}
}

func sound(t *testing.T, f api.Fact, want bool) {
	t.Helper()
	if got := fact.Sound(f); got != want {
		t.Errorf("Sound(%+v) is %v", f, got)
	}
}

// where holds Sound of each example against want, once change was done to it.
func where(t *testing.T, want bool, change func(f *api.Fact)) {
	t.Helper()
	for _, f := range examples() {
		change(&f)
		sound(t, f, want)
	}
}

func TestSoundExamples(t *testing.T) {
	where(t, true, func(f *api.Fact) {})
	sound(t, api.Fact{}, false)
	for kind := 1; kind <= 3; kind++ {
		sound(t, api.Fact{Kind: kind}, false)
		sound(t, api.Fact{Kind: kind, Type: 1, Rank: 1}, false)
	}
}

func TestSoundName(t *testing.T) {
	l63 := strings.Repeat("x", 63)
	for _, n := range [][]string{
		{"a"}, {"A"}, {"\x00", "A"}, {l63, "a"}, {"a", "a", "a"},
		{l63, l63, l63, strings.Repeat("x", 59), "a"},
	} {
		where(t, true, func(f *api.Fact) { f.Name = n })
	}
	for _, n := range [][]string{
		{"", "a"}, {"www", "", "a"}, {l63 + "x", "a"},
		{l63, l63, l63, strings.Repeat("x", 60), "a"}, make([]string, 1000),
	} {
		where(t, false, func(f *api.Fact) { f.Name = n })
	}
	sound(t, has("", api.NS, 1, 5, host("")), true)
	sound(t, noData("", api.A, 1, 5, "", soa(0)), true)
	sound(t, noName("", 1, 5, "", soa(0)), true)
}

func TestSoundKind(t *testing.T) {
	for _, kind := range []int{0, -1, -2, -3, 4, 5, 255, 257, 1<<32 + 1, 1<<32 + 2, 1<<32 + 3, math.MaxInt, math.MinInt} {
		where(t, false, func(f *api.Fact) { f.Kind = kind })
		// Nor one that has what none needs, or what all need.
		sound(t, api.Fact{Kind: kind, Rank: 1, Type: 1, Set: []api.Data{address(1)}, Soa: soa(1)}, false)
		sound(t, api.Fact{Kind: kind, Rank: 1}, false)
	}
	// What one kind needs is not what another does.
	for i, f := range examples() {
		for kind := 1; kind <= 3; kind++ {
			f.Kind = kind
			sound(t, f, kind == i+1)
		}
	}
}

// dataOf is sound for the type.
func dataOf(kind int) api.Data {
	switch kind {
	case api.A:
		return address(1)
	case api.AAAA:
		return long(1)
	case api.NS, api.CNAME, api.PTR:
		return host("a")
	case api.SOA:
		return soa(1)
	case api.MX:
		return api.Data{Host: name("a"), Nums: []int{1}}
	case api.TXT:
		return api.Data{Texts: []string{"a"}}
	case api.SRV:
		return api.Data{Host: name("a"), Nums: []int{1, 2, 3}}
	}
	return api.Data{Bytes: []byte{7}}
}

func TestSoundType(t *testing.T) {
	for kind := -70000; kind < 140000; kind++ {
		may := kind >= 1 && kind <= 65534 && kind != 41 && kind != 255
		sound(t, has("a", kind, 1, 5, dataOf(kind)), may)
		sound(t, noData("a", kind, 1, 5, "", soa(1)), may)
		f := noName("a", 1, 5, "", soa(1))
		f.Type = kind
		sound(t, f, kind == 0)
	}
	for _, kind := range []int{math.MinInt, math.MaxInt, 1<<32 + 1, 1<<16 + 1, -1 << 32, 1 << 32} {
		where(t, false, func(f *api.Fact) { f.Type = kind })
	}
}

func TestSoundSet(t *testing.T) {
	set := func(kind int, want bool, list ...api.Data) {
		t.Helper()
		sound(t, has("a", kind, 1, 5, list...), want)
	}
	set(api.A, false)
	set(api.A, false, api.Data{})
	set(api.A, true, address(1))
	set(api.A, true, address(2), address(1), address(3))
	// Each one has to be sound for the type.
	set(api.A, false, long(1))
	set(api.A, false, host("a"))
	set(api.AAAA, false, address(1))
	set(api.A, false, long(1), address(2), address(3))
	set(api.A, false, address(1), long(2), address(3))
	set(api.A, false, address(1), address(2), long(3))
	set(api.NS, false, host("a..b"))
	set(api.NS, true, host(""))
	set(api.TXT, true, api.Data{Texts: []string{""}})
	set(300, true, api.Data{})
	// No two are the Same, wherever they stand.
	set(api.A, false, address(1), address(1))
	set(api.A, false, address(1), address(2), address(1))
	set(api.A, false, address(2), address(1), address(1))
	set(api.A, false, address(1), address(1), address(2))
	set(api.NS, false, host("ns.a"), host("x"), host("NS.A"))
	set(api.NS, true, host("ns.a"), host("nsa"), host("a.ns"))
	set(api.TXT, true, api.Data{Texts: []string{"a"}}, api.Data{Texts: []string{"A"}})
	set(300, false, api.Data{}, api.Data{Bytes: []byte{}})
	set(api.CNAME, true, host("a"), host("b"))
}

func TestSoundSizeOfASet(t *testing.T) {
	var list []api.Data
	for i := range maxSet + 10 {
		list = append(list, address(i))
		sound(t, has("a", api.A, 1, 5, list...), i < maxSet)
	}
	twice := append([]api.Data(nil), list[:maxSet]...)
	twice[maxSet-1] = address(0)
	sound(t, has("a", api.A, 1, 5, twice...), false)
	sound(t, has("a", api.A, 1, 5, make([]api.Data, 1<<20)...), false)
}

// What Has has no need of, and the others no need of, may not be there.
func TestSoundHasNoMore(t *testing.T) {
	f := examples()[0]
	f.Zone = []string{}
	f.Soa = api.Data{Bytes: []byte{}, Host: []string{}, Mail: []string{}, Nums: []int{}, Texts: []string{}}
	sound(t, f, true)
	for _, zone := range []string{"a", "www.a", "b"} {
		f := examples()[0]
		f.Zone = name(zone)
		sound(t, f, false)
	}
	for _, d := range []api.Data{
		soa(1), address(1), {Bytes: []byte{0}}, {Host: []string{""}}, {Mail: []string{"a"}}, {Nums: []int{0}}, {Texts: []string{""}},
	} {
		f := examples()[0]
		f.Soa = d
		sound(t, f, false)
	}
	for _, f := range examples()[1:] {
		f.Set = []api.Data{}
		sound(t, f, true)
		for _, d := range []api.Data{{}, address(1), soa(1)} {
			f.Set = []api.Data{d}
			sound(t, f, false)
		}
	}
}

func TestSoundZone(t *testing.T) {
	for _, f := range examples()[1:] {
		for _, zone := range []string{"", "a", "A", "www.a", "WWW.A"} {
			f.Zone = name(zone)
			sound(t, f, true)
		}
		f.Zone = []string{}
		sound(t, f, true)
		for _, zone := range []string{"b", "ww.a", "x.www.a", "www", "wwww.a", "w.a", "aa", ".a", "www.", ".", "a.a", "www.a.a"} {
			f.Zone = name(zone)
			sound(t, f, false)
		}
	}
}

func TestSoundSoa(t *testing.T) {
	for _, f := range examples()[1:] {
		for _, d := range []api.Data{
			soa(0), soa(1), soa(1<<32 - 1), {Nums: []int{0, 0, 0, 0, 0}}, {Host: []string{}, Mail: name("b"), Nums: []int{1<<32 - 1, 0, 0, 0, 0}},
		} {
			f.Soa = d
			sound(t, f, true)
		}
		for _, d := range []api.Data{
			{}, address(1), host("a"), soa(-1), soa(1 << 32),
			{Nums: []int{1, 2, 3, 4}}, {Nums: []int{1, 2, 3, 4, 5, 6}}, {Host: []string{""}, Nums: []int{1, 2, 3, 4, 5}},
			{Mail: []string{""}, Nums: []int{1, 2, 3, 4, 5}}, {Bytes: []byte{1}, Nums: []int{1, 2, 3, 4, 5}},
			{Texts: []string{"a"}, Nums: []int{1, 2, 3, 4, 5}},
		} {
			f.Soa = d
			sound(t, f, false)
		}
	}
}

func TestSoundRank(t *testing.T) {
	for rank := 1; rank <= 4; rank++ {
		where(t, true, func(f *api.Fact) { f.Rank = rank })
	}
	for _, rank := range []int{0, 5, -1, 6, 257, 1<<32 + 1, math.MaxInt, math.MinInt} {
		where(t, false, func(f *api.Fact) { f.Rank = rank })
	}
}

func TestSoundGot(t *testing.T) {
	for _, got := range []int{0, 1, now, 1 << 31, 1 << 32, maxTime - 1, maxTime} {
		where(t, true, func(f *api.Fact) { f.Got = got })
	}
	for _, got := range []int{-1, -now, maxTime + 1, 2 * maxTime, math.MaxInt, math.MinInt} {
		where(t, false, func(f *api.Fact) { f.Got = got })
	}
}

func TestSoundTTL(t *testing.T) {
	for _, ttl := range []int{0, 1, 30, maxNeg - 1, maxNeg} {
		where(t, true, func(f *api.Fact) { f.TTL = ttl })
	}
	for _, ttl := range []int{-1, -60, maxTTL + 1, 1 << 31, 1 << 32, 1<<32 + 1, math.MaxInt, math.MinInt} {
		where(t, false, func(f *api.Fact) { f.TTL = ttl })
	}
	for _, ttl := range []int{maxNeg + 1, 86400, maxTTL - 1, maxTTL} {
		where(t, true, func(f *api.Fact) {
			if f.Kind == api.Has {
				f.TTL = ttl
			}
		})
		for _, f := range examples()[1:] {
			f.TTL = ttl
			sound(t, f, false)
		}
	}
}

// keyed is a fact, of which the name alone matters, and the type.
func keyed(kind int, n ...string) api.Fact {
	if kind == 0 {
		return api.Fact{Name: n, Kind: api.NoName, Rank: 1, Soa: soa(1)}
	}
	return api.Fact{Name: n, Type: kind, Kind: api.NoData, Rank: 1, Soa: soa(1)}
}

// Facts of which no two have a Key in common.
func ofManyKeys() []api.Fact {
	names := [][]string{
		nil, {"a"}, {"b"}, {"aa"}, {"a", "a"}, {"a", "b"}, {"b", "a"}, {"a.b"}, {"a\\.b"}, {"a\\", "b"}, {"a\\"}, {"a."}, {".a"},
		{"."}, {"\\"}, {" "}, {"\x00"}, {"\\000"}, {"000"}, {"\x00", "a"}, {"\xe2\x84\xaa"}, {"k"}, {"\xff"}, {"\xdf"}, {"\xc3\xa4"}, {"\xc3\x84"},
		{"@"}, {"`"}, {"["}, {"{"}, {"1"}, {"1", "a"}, {"1", "1"}, {"11"}, {"2"}, {" ", "a"}, {" a"}, {"-1"}, {"\n"}, {"\x7f"}, {"\\127"}, {"a", "\x00"},
		{"a\x00"}, {"a", "b", "c"}, {"a", "b.c"}, {"a.b", "c"}, {"a.b.c"}, {"a b"}, {"a/b"},
	}
	var out []api.Fact
	for _, n := range names {
		for _, kind := range []int{0, 1, 2, 5, 11, 12, 16, 111, 256, 257, 65534} {
			out = append(out, keyed(kind, n...))
		}
	}
	return out
}

func TestKeysDiffer(t *testing.T) {
	list := ofManyKeys()
	keys := map[string]int{}
	for i, f := range list {
		sound(t, f, true)
		k := fact.Key(f)
		if j, there := keys[k]; there {
			t.Errorf("%v and %v have the Key %s in common", f, list[j], k)
		}
		keys[k] = i
	}
}

func TestKeyHangsOnNameAndTypeAlone(t *testing.T) {
	key := func(a, b api.Fact) {
		t.Helper()
		sound(t, a, true)
		sound(t, b, true)
		if fact.Key(a) != fact.Key(b) {
			t.Errorf("the Keys of %v and %v are %s and %s", a, b, fact.Key(a), fact.Key(b))
		}
	}
	for kind := range 3 {
		key(keyed(kind, "www", "A"), keyed(kind, "WWW", "a"))
		key(keyed(kind, "AZ", "\x00\xff@["), keyed(kind, "az", "\x00\xff@["))
		key(keyed(kind), keyed(kind))
	}
	a, b := has("www.a", api.A, 1, 5, address(1)), noData("WWW.A", api.A, 4, 60, "a", soa(7))
	key(a, b)
	b = has("www.A", api.A, 3, 7, address(2), address(3))
	b.Got = 77
	key(a, b)
	key(noName("www.a", 1, 2, "a", soa(1)), noName("WWW.a", 2, 3, "", soa(2)))
}

func TestKeyOfWhatIsNotSound(t *testing.T) {
	for _, f := range []api.Fact{
		{}, {Type: -1}, {Type: math.MinInt}, {Type: math.MaxInt}, {Name: []string{"", ""}}, {Name: make([]string, 1000)},
		{Name: []string{strings.Repeat("\x00", 100000)}}, {Kind: -1, Set: make([]api.Data, 100)},
	} {
		if fact.Key(f) != fact.Key(f) {
			t.Errorf("two Keys of %v", f)
		}
	}
}

func beats(t *testing.T, old, new api.Fact, now int, want bool) {
	t.Helper()
	if got := fact.Beats(old, new, now); got != want {
		t.Errorf("Beats(%+v, %+v, %d) is %v", old, new, now, got)
	}
}

func TestBeats(t *testing.T) {
	for was := 1; was <= 4; was++ {
		for is := 1; is <= 4; is++ {
			old, new := has("a", api.A, was, 5, address(1)), has("A", api.A, is, 5, address(2))
			for _, at := range []int{0, 1, now - 1, now, now + 1, now + 4} {
				beats(t, old, new, at, is >= was)
			}
			for _, at := range []int{now + 5, now + 6, now + 1000, maxTime - 1, maxTime} {
				beats(t, old, new, at, true)
			}
		}
	}
}

// Of no seconds nothing is fresh at any time.
func TestBeatsWhatHasNoSeconds(t *testing.T) {
	old, new := has("a", api.A, 4, 0, address(1)), has("a", api.A, 1, 0, address(1))
	for _, at := range []int{0, now - 1, now, now + 1, maxTime} {
		beats(t, old, new, at, true)
	}
	old.Got = maxTime
	beats(t, old, new, 0, true)
	beats(t, old, new, maxTime, true)
}

// It is old's time that counts, and its kind does not.
func TestBeatsByOldAlone(t *testing.T) {
	kinds := []api.Fact{has("a", api.A, 1, 5, address(1)), noData("a", api.A, 1, 5, "", soa(5))}
	for _, old := range kinds {
		for _, new := range kinds {
			old.Rank = 2
			old.TTL, new.TTL = 10, 100
			new.Got = 0
			beats(t, old, new, now+9, false)
			beats(t, old, new, now+10, true)
			new.Got, new.TTL = 1000, 0
			beats(t, old, new, now+9, false)
			beats(t, old, new, now+10, true)
			new.Rank = 2
			beats(t, old, new, 0, true)
		}
	}
	old, new := noName("a", 4, 5, "", soa(5)), noName("A", 3, 5, "", soa(7))
	beats(t, old, new, now+4, false)
	beats(t, new, old, now+4, true)
	beats(t, old, new, now+5, true)
}

func TestBeatsAtNoTime(t *testing.T) {
	for _, f := range examples() {
		for _, at := range []int{-1, -now, math.MinInt, maxTime + 1, 2 * maxTime, math.MaxInt} {
			beats(t, f, f, at, false)
		}
		for _, at := range []int{0, maxTime} {
			beats(t, f, f, at, true)
		}
	}
}

func TestBeatsOfOneKeyAlone(t *testing.T) {
	list := ofManyKeys()[:60]
	for i, old := range list {
		for j, new := range list {
			new.Rank = 4
			beats(t, old, new, now, i == j)
		}
	}
	a := examples()
	beats(t, a[0], a[1], 1000, true)
	beats(t, a[0], a[2], 1000, false)
	beats(t, a[2], a[1], 1000, false)
}

func TestBeatsOfSoundFacts(t *testing.T) {
	beats(t, api.Fact{}, api.Fact{}, 0, false)
	for _, f := range examples() {
		for _, x := range unsound(f) {
			beats(t, f, x, 1000, false)
			beats(t, x, f, 1000, false)
			beats(t, x, x, 1000, false)
		}
	}
}

// unsound are what f is, which is sound, but for a part.
func unsound(f api.Fact) []api.Fact {
	var out []api.Fact
	for _, change := range []func(x *api.Fact){
		func(x *api.Fact) { x.Kind = 4 },
		func(x *api.Fact) { x.Rank = 5 },
		func(x *api.Fact) { x.Rank = 0 },
		func(x *api.Fact) { x.Got = -1 },
		func(x *api.Fact) { x.TTL = -1 },
		func(x *api.Fact) { x.TTL = maxTTL + 1 },
		func(x *api.Fact) { x.Set = append([]api.Data{{}}, x.Set...) },
		func(x *api.Fact) { x.Soa.Bytes = []byte{1} },
		func(x *api.Fact) { x.Zone = []string{"x"} },
	} {
		x := f
		change(&x)
		out = append(out, x)
	}
	return out
}

func same(t *testing.T, a, b api.Fact, want bool) {
	t.Helper()
	if got := fact.Same(a, b); got != want {
		t.Errorf("Same(%+v, %+v) is %v", a, b, got)
	}
	if got := fact.Same(b, a); got != want {
		t.Errorf("Same(%+v, %+v) is %v", b, a, got)
	}
}

func TestSame(t *testing.T) {
	for i, a := range examples() {
		for j, b := range examples() {
			same(t, a, b, i == j)
		}
		for _, change := range []func(x *api.Fact){
			func(x *api.Fact) { x.Name = name("ww.a") },
			func(x *api.Fact) { x.Name = name("x.www.a") },
			func(x *api.Fact) { x.Type ^= 1 << 10 },
			func(x *api.Fact) { x.Rank++ },
			func(x *api.Fact) { x.Got++ },
			func(x *api.Fact) { x.TTL++ },
		} {
			b := a
			change(&b)
			same(t, a, b, false)
		}
		b := a
		b.Name = name("Www.A")
		same(t, a, b, true)
	}
}

func TestSameSets(t *testing.T) {
	set := func(kind int, list ...api.Data) api.Fact { return has("a", kind, 1, 5, list...) }
	x, y, z := address(1), address(2), address(3)
	same(t, set(api.A, x), set(api.A, x), true)
	same(t, set(api.A, x), set(api.A, y), false)
	same(t, set(api.A, x, y), set(api.A, y, x), true)
	same(t, set(api.A, x, y), set(api.A, x), false)
	same(t, set(api.A, x, y), set(api.A, x, z), false)
	same(t, set(api.A, x, y, z), set(api.A, z, x, y), true)
	same(t, set(api.NS, host("n.a"), host("m")), set(api.NS, host("M"), host("N.A")), true)
	same(t, set(api.TXT, api.Data{Texts: []string{"a"}}), set(api.TXT, api.Data{Texts: []string{"A"}}), false)
	// As sets they are the Same, but one is no fact.
	same(t, set(api.A, x, y), set(api.A, x, y, x), false)
}

func TestSameZonesAndSoas(t *testing.T) {
	for _, a := range examples()[1:] {
		for _, change := range []func(x *api.Fact){
			func(x *api.Fact) { x.Zone = nil },
			func(x *api.Fact) { x.Zone = name("www.a") },
			func(x *api.Fact) { x.Soa = soa(61) },
			func(x *api.Fact) { x.Soa.Host = name("ns.b") },
			func(x *api.Fact) { x.Soa.Mail = nil },
			func(x *api.Fact) { x.Soa.Nums = []int{0, 2, 3, 4, 60} },
		} {
			b := a
			change(&b)
			sound(t, b, true)
			same(t, a, b, false)
		}
		b := a
		b.Zone = name("A")
		b.Soa.Host, b.Soa.Mail = name("NS.a"), name("ROOT.A")
		same(t, a, b, true)
	}
}

func TestSameOfSoundFacts(t *testing.T) {
	same(t, api.Fact{}, api.Fact{}, false)
	for _, f := range examples() {
		for _, x := range unsound(f) {
			same(t, x, x, false)
			same(t, x, f, false)
		}
	}
}
