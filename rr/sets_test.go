package rr_test

import (
	"math"
	"math/rand"
	"reflect"
	"slices"
	"strings"
	"testing"

	"gazetteer/api"
	"gazetteer/rr"
)

// data is of one number.
func data(n byte) api.Data {
	return api.Data{Bytes: []byte{1, 2, 3, n}}
}

func host(labels ...string) api.Data {
	return api.Data{Host: labels}
}

func alikeSets(a, b []api.Data) bool {
	return slices.EqualFunc(a, b, alike)
}

func TestSame(t *testing.T) {
	x, y, z := data(1), data(2), data(3)
	for _, c := range []struct {
		a, b []api.Data
		want bool
	}{
		{nil, nil, true},
		{nil, []api.Data{}, true},
		{nil, []api.Data{x}, false},
		{[]api.Data{}, []api.Data{{}}, false},
		{[]api.Data{{}}, []api.Data{{}, {Host: []string{}}}, true},
		{[]api.Data{x}, []api.Data{x}, true},
		{[]api.Data{x}, []api.Data{y}, false},
		{[]api.Data{x, y}, []api.Data{y, x}, true},
		{[]api.Data{x, y, z}, []api.Data{z, x, y}, true},
		{[]api.Data{x, y}, []api.Data{x}, false},
		{[]api.Data{x, y}, []api.Data{x, z}, false},
		{[]api.Data{x, y}, []api.Data{x, y, z}, false},
		// However often: they are sets.
		{[]api.Data{x, x}, []api.Data{x}, true},
		{[]api.Data{x, x, y}, []api.Data{x, y, y}, true},
		{[]api.Data{x, x}, []api.Data{x, y}, false},
		{[]api.Data{x, x, x}, []api.Data{x, y, z}, false},
		// The Same of chapter 4: names with small letters, all else as it is.
		{[]api.Data{host("a", "B")}, []api.Data{host("A", "b")}, true},
		{[]api.Data{host("a"), host("b")}, []api.Data{host("B"), host("A"), host("a")}, true},
		{[]api.Data{host("a", "b")}, []api.Data{host("b", "a")}, false},
		{[]api.Data{{Mail: []string{"a"}}}, []api.Data{{Mail: []string{"A"}}}, true},
		{[]api.Data{{Texts: []string{"a"}}}, []api.Data{{Texts: []string{"A"}}}, false},
		{[]api.Data{{Nums: []int{1, 2}}}, []api.Data{{Nums: []int{2, 1}}}, false},
		{[]api.Data{{Bytes: []byte("a")}}, []api.Data{{Bytes: []byte("A")}}, false},
		{[]api.Data{host("a")}, []api.Data{{Mail: []string{"a"}}}, false},
	} {
		if got := rr.Same(c.a, c.b); got != c.want {
			t.Errorf("Same(%v, %v) is %v", c.a, c.b, got)
		}
		if got := rr.Same(c.b, c.a); got != c.want {
			t.Errorf("Same(%v, %v) is %v", c.b, c.a, got)
		}
	}
}

// Sets of some of five data are the same just if the same ones of them are there.
func TestSameAsTheModel(t *testing.T) {
	all := []api.Data{data(1), host("a"), host("b", "A"), {Nums: []int{1}, Host: []string{"a"}}, {}}
	other := []api.Data{data(1), host("A"), host("B", "a"), {Nums: []int{1}, Host: []string{"A"}}, {Bytes: []byte{}}}
	for seed := range 20 {
		draw := rand.New(rand.NewSource(int64(seed)))
		for range 1000 {
			var a, b []api.Data
			inA, inB := [5]bool{}, [5]bool{}
			for range draw.Intn(7) {
				i := draw.Intn(5)
				a, inA[i] = append(a, all[i]), true
			}
			for range draw.Intn(7) {
				i := draw.Intn(5)
				b, inB[i] = append(b, other[i]), true
			}
			if got := rr.Same(a, b); got != (inA == inB) {
				t.Fatalf("Same(%v, %v) is %v", a, b, got)
			}
		}
	}
}

func record(n string, kind, class, ttl int, d api.Data) api.RR {
	var labels []string
	if n != "" {
		labels = strings.Split(n, ".")
	}
	return api.RR{Name: labels, Type: kind, Class: class, TTL: ttl, Data: d}
}

func TestSet(t *testing.T) {
	list := []api.RR{
		record("b", api.A, 1, 1, data(9)),
		record("a", api.A, 1, 50, data(4)),
		record("A", api.A, 1, 40, data(5)),
		record("a", api.A, 1, 60, data(4)),
		record("a", api.A, 3, 2, data(6)),
		record("a", api.A, 0, 2, data(6)),
		record("a", api.A, 255, 2, data(6)),
		record("a", 257, 1, 2, data(6)),
		record("a.a", api.A, 1, 3, data(7)),
		record("", api.A, 1, 4, data(8)),
		record("a", api.NS, 1, 30, host("N", "a")),
		record("a", api.A, 1, 45, data(3)),
		record("a", api.NS, 1, 20, host("n", "A")),
		record("a", api.NS, 1, 25, host("m", "a")),
		record("a", api.A, 1, 70, data(5)),
	}
	for _, c := range []struct {
		name string
		kind int
		set  []api.Data
		ttl  int
	}{
		{"a", api.A, []api.Data{data(4), data(5), data(3)}, 40},
		{"A", api.A, []api.Data{data(4), data(5), data(3)}, 40},
		{"a", api.NS, []api.Data{host("N", "a"), host("m", "a")}, 20},
		{"b", api.A, []api.Data{data(9)}, 1},
		{"A.a", api.A, []api.Data{data(7)}, 3},
		{"", api.A, []api.Data{data(8)}, 4},
		{"a", 257, []api.Data{data(6)}, 2},
		{"a", api.MX, nil, 0},
		{"a", api.ANY, nil, 0},
		{"a", 0, nil, 0},
		{"a", -1, nil, 0},
		{"a", api.A + 65536, nil, 0},
		{"c", api.A, nil, 0},
		{"b", api.NS, nil, 0},
		{"", api.NS, nil, 0},
	} {
		n := record(c.name, 0, 0, 0, api.Data{}).Name
		set, ttl := rr.Set(list, n, c.kind)
		if ttl != c.ttl || !alikeSets(set, c.set) {
			t.Errorf("Set of %q, %d: %v, %d, not %v, %d", c.name, c.kind, set, ttl, c.set, c.ttl)
		}
		if set, ttl := rr.Set(nil, n, c.kind); len(set) != 0 || ttl != 0 {
			t.Errorf("Set of nothing: %v, %d", set, ttl)
		}
	}
}

// The least TTL is that of all, wherever it stands: also of those left out.
func TestSetTTL(t *testing.T) {
	for _, c := range []struct {
		ttls []int
		want int
	}{
		{[]int{5, 3}, 3},
		{[]int{3, 5}, 3},
		{[]int{5, 4, 3, 4, 5}, 3},
		{[]int{0, 5}, 0},
		{[]int{5, 0}, 0},
		{[]int{5, 0, 4}, 0},
		{[]int{7}, 7},
		{[]int{0}, 0},
		{[]int{math.MaxInt, math.MaxInt - 1}, math.MaxInt - 1},
		{[]int{math.MaxInt}, math.MaxInt},
		// Also of records that are not sound.
		{[]int{5, -1}, -1},
		{[]int{-1, 0, 5}, -1},
		{[]int{-5}, -5},
		{[]int{0, math.MinInt, -1}, math.MinInt},
	} {
		var same, others []api.RR
		for i, ttl := range c.ttls {
			same = append(same, record("a", api.A, 1, ttl, data(1)), record("b", api.A, 1, -9, data(1)))
			others = append(others, record("a", api.A, 1, ttl, data(byte(i))), record("a", api.A, 2, -9, data(1)))
		}
		if set, ttl := rr.Set(same, []string{"a"}, api.A); ttl != c.want || len(set) != 1 {
			t.Errorf("of %v: %v, %d", c.ttls, set, ttl)
		}
		if set, ttl := rr.Set(others, []string{"a"}, api.A); ttl != c.want || len(set) != len(c.ttls) {
			t.Errorf("of %v: %v, %d", c.ttls, set, ttl)
		}
	}
}

// Of those that are the Same the first one stays, as it is; and each field is
// told, also of data that is sound for no type.
func TestSetKeepsTheFirst(t *testing.T) {
	full := api.Data{Bytes: []byte{1}, Host: []string{"H"}, Mail: []string{"M"}, Nums: []int{-2, 3}, Texts: []string{"T", ""}}
	small := api.Data{Bytes: []byte{1}, Host: []string{"h"}, Mail: []string{"m"}, Nums: []int{-2, 3}, Texts: []string{"T", ""}}
	text := api.Data{Bytes: []byte{1}, Host: []string{"H"}, Mail: []string{"M"}, Nums: []int{-2, 3}, Texts: []string{"t", ""}}
	for _, kind := range []int{api.A, api.SOA, 0, -7, math.MaxInt} {
		list := []api.RR{
			record("a", kind, 1, 5, full), record("a", kind, 1, 5, small), record("a", kind, 1, 5, text), record("a", kind, 1, 5, api.Data{}),
			record("a", kind, 1, 5, api.Data{Nums: []int{}}),
		}
		if set, ttl := rr.Set(list, []string{"a"}, kind); ttl != 5 || !alikeSets(set, []api.Data{full, text, {}}) {
			t.Errorf("%d: %v, %d", kind, set, ttl)
		}
		list[0], list[1] = list[1], list[0]
		if set, ttl := rr.Set(list, []string{"A"}, kind); ttl != 5 || !alikeSets(set, []api.Data{small, text, {}}) {
			t.Errorf("%d: %v, %d", kind, set, ttl)
		}
	}
	for _, n := range [][]string{{""}, {"a", ""}, {label(300), "B"}} {
		list := []api.RR{{Name: n, Type: api.A, Class: 1, TTL: 5, Data: data(1)}}
		if set, ttl := rr.Set(list, n, api.A); ttl != 5 || !alikeSets(set, []api.Data{data(1)}) {
			t.Errorf("%.20q: %v, %d", n, set, ttl)
		}
	}
}

// A set is not cut, however many data it has.
func TestSetOfMany(t *testing.T) {
	var list []api.RR
	var want []api.Data
	for i := range 600 {
		d := api.Data{Nums: []int{i}}
		list, want = append(list, record("a", 99, 1, 1000-i, d), record("A", 99, 1, 1000, d)), append(want, d)
	}
	if set, ttl := rr.Set(list, []string{"a"}, 99); ttl != 401 || !alikeSets(set, want) {
		t.Errorf("%d data, %d", len(set), ttl)
	}
}

func alikeNames(a, b []api.Question) bool {
	return slices.EqualFunc(a, b, func(x, y api.Question) bool {
		return x.Type == y.Type && x.Class == y.Class && slices.Equal(x.Name, y.Name)
	})
}

func TestNames(t *testing.T) {
	for _, c := range []struct {
		list []api.RR
		want []api.Question
	}{
		{nil, nil},
		{[]api.RR{}, nil},
		{[]api.RR{{}}, nil},
		{[]api.RR{record("a", api.A, 1, 1, data(1))}, []api.Question{{Name: []string{"a"}, Type: api.A, Class: 1}}},
		{[]api.RR{record("", api.NS, 1, 1, data(1))}, []api.Question{{Type: api.NS, Class: 1}}},
		{
			[]api.RR{
				record("c", api.A, 0, 1, data(1)),
				record("B", api.A, 1, 1, data(1)),
				record("a", api.A, 1, 1, data(1)),
				record("b", api.A, 1, 2, data(2)),
				record("c", api.A, 3, 2, data(2)),
				record("b", api.NS, 1, 1, data(1)),
				record("A", api.A, 1, 1, data(1)),
				record("A", api.NS, 1, 1, data(1)),
				record("c", api.A, 65537, 2, data(2)),
				record("c", api.A, -1, 2, data(2)),
				record("c", api.A, 255, 2, data(2)),
				record("b.a", api.A, 1, 1, data(1)),
				record("", api.A, 1, 1, data(1)),
				record("a", api.NS, 1, 1, data(1)),
				record("", api.A, 1, 1, data(1)),
				record("B.A", api.A, 1, 1, data(1)),
				record("B", api.NS, 1, 1, data(1)),
			},
			[]api.Question{
				{Name: []string{"B"}, Type: api.A, Class: 1},
				{Name: []string{"a"}, Type: api.A, Class: 1},
				{Name: []string{"b"}, Type: api.NS, Class: 1},
				{Name: []string{"A"}, Type: api.NS, Class: 1},
				{Name: []string{"b", "a"}, Type: api.A, Class: 1},
				{Type: api.A, Class: 1},
			},
		},
		// A record of another class is no first one.
		{
			[]api.RR{record("A", api.A, 3, 1, data(1)), record("a", api.A, 1, 1, data(1))},
			[]api.Question{{Name: []string{"a"}, Type: api.A, Class: 1}},
		},
		// Also of records that are not sound.
		{
			[]api.RR{
				{Name: []string{""}, Type: -1, Class: 1}, {Name: []string{"", ""}, Type: -1, Class: 1},
				{Name: []string{""}, Type: 65535, Class: 1}, {Name: []string{""}, Type: -1, Class: 1},
				{Name: []string{"a.b"}, Class: 1}, {Name: []string{"a", "b"}, Class: 1}, {Name: []string{"A.B"}, Class: 1},
			},
			[]api.Question{
				{Name: []string{""}, Type: -1, Class: 1}, {Name: []string{"", ""}, Type: -1, Class: 1},
				{Name: []string{""}, Type: 65535, Class: 1},
				{Name: []string{"a.b"}, Class: 1}, {Name: []string{"a", "b"}, Class: 1},
			},
		},
	} {
		if got := rr.Names(c.list); !alikeNames(got, c.want) {
			t.Errorf("Names(%v): %v, not %v", c.list, got, c.want)
		}
	}
}

// drawn is records of few names, types and classes.
func drawn(draw *rand.Rand) []api.RR {
	var list []api.RR
	for range draw.Intn(12) {
		n := []string{"", "a", "A", "b", "a.b", "a.B"}[draw.Intn(6)]
		kind := []int{api.A, api.NS, 99}[draw.Intn(3)]
		d := []api.Data{data(1), host("a"), host("A"), host("b"), {}}[draw.Intn(5)]
		list = append(list, record(n, kind, []int{1, 1, 1, 0, 3}[draw.Intn(5)], draw.Intn(9), d))
	}
	return list
}

// Each set is told by Names, in order; and together they are all there is.
func TestSetsOfNames(t *testing.T) {
	lower := func(n []string) string { return strings.ToLower(strings.Join(n, ".")) }
	for seed := range 20 {
		draw := rand.New(rand.NewSource(int64(seed)))
		for range 500 {
			list := drawn(draw)
			names := rr.Names(list)
			seen := map[string]int{}
			var want []api.Question
			for _, r := range list {
				key := lower(r.Name) + " " + string(rune('0'+r.Type))
				if r.Class == 1 && seen[key] == 0 {
					want = append(want, api.Question{Name: r.Name, Type: r.Type, Class: 1})
				}
				if r.Class == 1 {
					seen[key]++
				}
			}
			if !alikeNames(names, want) {
				t.Fatalf("Names(%v): %v, not %v", list, names, want)
			}
			for _, q := range names {
				var all []api.Data
				least := math.MaxInt
				for _, r := range list {
					if r.Class == 1 && r.Type == q.Type && lower(r.Name) == lower(q.Name) {
						least = min(least, r.TTL)
						if !slices.ContainsFunc(all, func(d api.Data) bool {
							return lower(d.Host) == lower(r.Data.Host) && alike(api.Data{Bytes: d.Bytes}, api.Data{Bytes: r.Data.Bytes})
						}) {
							all = append(all, r.Data)
						}
					}
				}
				set, ttl := rr.Set(list, q.Name, q.Type)
				if ttl != least || !alikeSets(set, all) || !rr.Same(set, all) {
					t.Fatalf("Set(%v, %v): %v, %d, not %v, %d", list, q, set, ttl, all, least)
				}
			}
		}
	}
}

// What is handed in has spare room, and is as it was behind every call; what is
// answered is new memory.
func TestSetsAnswerNewMemory(t *testing.T) {
	full := api.Data{Bytes: []byte{1}, Host: []string{"h"}, Mail: []string{"m"}, Nums: []int{2}, Texts: []string{"t"}}
	twice := func() []api.RR {
		list := []api.RR{roomy(record("a.b", api.A, 1, 5, full)), roomy(record("a.b", api.A, 1, 5, data(1))), roomy(record("c", api.A, 1, 5, full)), {}}
		return list[:3]
	}
	check := func(list []api.RR) {
		t.Helper()
		want := twice()
		for i, r := range list[:cap(list)] {
			if !reflect.DeepEqual(whole(r), whole(want[:4][i])) {
				t.Errorf("record %d was changed: %v", i, whole(r))
			}
		}
	}
	list, n := twice(), []string{"a", "b"}
	for range 2 {
		set, _ := rr.Set(list, n, api.A)
		again, _ := rr.Set(list, n, api.A)
		names, more := rr.Names(list), rr.Names(list)
		rr.Same(set, again)
		if !alikeSets(set, []api.Data{full, data(1)}) || !alikeNames(names, more) || len(names) != 2 {
			t.Fatalf("%v, %v", set, names)
		}
		for _, d := range set[:cap(set)] {
			spoil(api.RR{Data: d})
		}
		for _, q := range names[:cap(names)] {
			spoil(api.RR{Name: q.Name})
		}
		if !alikeSets(again, []api.Data{full, data(1)}) || !slices.Equal(more[0].Name, n) || !slices.Equal(more[1].Name, []string{"c"}) {
			t.Errorf("answers share memory: %v, %v", again, more)
		}
		check(list)
	}
	set, _ := rr.Set(list, n, api.A)
	names := rr.Names(list)
	for _, r := range list {
		spoil(r)
	}
	if !alikeSets(set, []api.Data{full, data(1)}) || !slices.Equal(names[0].Name, []string{"a", "b"}) {
		t.Errorf("answers share memory with what was handed in: %v, %v", set, names)
	}
}

// Same changes nothing: neither the lists nor what their data have.
func TestSameChangesNothing(t *testing.T) {
	both := func() []api.Data {
		list := []api.Data{roomy(record("", 1, 1, 1, host("A", "b"))).Data, roomy(record("", 1, 1, 1, data(1))).Data, data(7)}
		return list[:2]
	}
	a, b := both(), both()
	if !rr.Same(a, b) || rr.Same(a, b[:1]) || rr.Same(a[:1], b) {
		t.Errorf("Same of %v, %v", a, b)
	}
	for i, d := range both()[:3] {
		for _, list := range [][]api.Data{a, b} {
			if !reflect.DeepEqual(whole(api.RR{Data: list[:3][i]}), whole(api.RR{Data: d})) {
				t.Errorf("data %d was changed: %v", i, list[:3][i])
			}
		}
	}
}
