package cache_test

import (
	"fmt"
	"math/big"
	"math/rand"
	"strings"
	"testing"

	"gazetteer/api"
	"gazetteer/cache"
	"gazetteer/fact"
)

// model is a list of facts, the one that was used longest ago first.
type model struct {
	most, stale int
	list        []api.Fact
}

// path is a name's text with a point ahead of each label: so one is under another
// just if its path ends in the other's. The model's names have no other points.
func path(n []string) string {
	out := ""
	for _, label := range n {
		out += "." + strings.ToLower(label)
	}
	return out
}

func (m *model) find(n []string, kind int) int {
	for i, f := range m.list {
		if path(f.Name) == path(n) && f.Type == kind {
			return i
		}
	}
	return -1
}

// take lets the fact at a place go, if it is one, and puts f last.
func (m *model) take(at int, f api.Fact) {
	if at >= 0 {
		m.list = append(append([]api.Fact(nil), m.list[:at]...), m.list[at+1:]...)
	}
	m.list = append(m.list, f)
	if len(m.list) > m.most {
		m.list = m.list[1:]
	}
}

// sum is of numbers without end.
func sum(list ...int) *big.Int {
	out := new(big.Int)
	for _, x := range list {
		out.Add(out, big.NewInt(int64(x)))
	}
	return out
}

func (m *model) fresh(f api.Fact, now int) bool {
	return timely(now) && f.TTL > 0 && big.NewInt(int64(now)).Cmp(sum(f.Got, f.TTL)) < 0
}

func (m *model) old(f api.Fact, now int) bool {
	return timely(now) && !m.fresh(f, now) && big.NewInt(int64(now)).Cmp(sum(f.Got, f.TTL, m.stale)) < 0
}

func timely(now int) bool {
	return now >= 0 && now <= maxTime
}

func (m *model) put(f api.Fact, now int) bool {
	at := m.find(f.Name, f.Type)
	if !fact.Sound(f) || !timely(now) || at >= 0 && f.Rank < m.list[at].Rank && m.fresh(m.list[at], now) {
		return false
	}
	m.take(at, f)
	return true
}

func (m *model) lay(f api.Fact) bool {
	if !fact.Sound(f) {
		return false
	}
	m.take(m.find(f.Name, f.Type), f)
	return true
}

// ask answers the place of what holds: of the type, or that there is no name.
func (m *model) ask(n []string, kind int, holds func(f api.Fact) bool) int {
	if kind < 1 || kind > 65534 || kind == 41 || kind == 255 {
		return -1
	}
	at := m.find(n, kind)
	if at < 0 || !holds(m.list[at]) {
		at = m.find(n, 0)
	}
	if at < 0 || !holds(m.list[at]) {
		return -1
	}
	return at
}

func (m *model) tell(at int) (api.Fact, bool) {
	if at < 0 {
		return api.Fact{}, false
	}
	f := m.list[at]
	m.take(at, f)
	return f, true
}

func (m *model) get(n []string, kind, now int) (api.Fact, bool) {
	return m.tell(m.ask(n, kind, func(f api.Fact) bool { return m.fresh(f, now) }))
}

func (m *model) older(n []string, kind, now int) (api.Fact, bool) {
	if m.ask(n, kind, func(f api.Fact) bool { return m.fresh(f, now) }) >= 0 {
		return api.Fact{}, false
	}
	return m.tell(m.ask(n, kind, func(f api.Fact) bool { return m.old(f, now) }))
}

func (m *model) look(n []string, kind int) (api.Fact, bool) {
	if at := m.find(n, kind); at >= 0 {
		return m.list[at], true
	}
	return api.Fact{}, false
}

func (m *model) flush(zone []string) int {
	var left []api.Fact
	for _, f := range m.list {
		if !strings.HasSuffix(path(f.Name), path(zone)) {
			left = append(left, f)
		}
	}
	gone := len(m.list) - len(left)
	m.list = left
	return gone
}

// drawn draws what calls are handed.
type drawn struct {
	*rand.Rand
	now int // times are drawn near it
}

func (d *drawn) name() []string {
	all := []string{"", "a", "A", "b", "b.a", "B.a", "c.b.a", "a.b", "ba", "x.a", "x.b"}
	return name(all[d.Intn(len(all))])
}

func (d *drawn) kind() int {
	all := []int{1, 1, 1, 16, 16, 2, 0, 0, 65534, 41, 255, 65535, -1}
	return all[d.Intn(len(all))]
}

func (d *drawn) time() int {
	if d.Intn(30) == 0 {
		return []int{-1, maxTime + 1, 0, maxTime}[d.Intn(4)]
	}
	return d.now + d.Intn(12) - 4
}

// fact is mostly a sound one.
func (d *drawn) fact() api.Fact {
	n, rank, got, ttl := strings.Join(d.name(), "."), 1+d.Intn(4), d.now+d.Intn(5)-2, d.Intn(8)
	f := has(n, d.Intn(500), rank, got, ttl)
	switch d.Intn(5) {
	case 0:
		f = noName(n, rank, got, ttl)
	case 1:
		f = noData(n, d.kind(), rank, got, ttl)
	case 2:
		f = text(n, rank, got, ttl)
	}
	if d.Intn(20) == 0 {
		f.Rank = []int{0, 5}[d.Intn(2)]
	}
	return f
}

// call is what a call told, as a text.
func call(what string, told ...any) string {
	for i, x := range told {
		if f, ok := x.(api.Fact); ok {
			told[i] = plain(f)
		}
	}
	return fmt.Sprintf("%s: %+v", what, told)
}

// step does one call with both, and answers what each of them told.
func (d *drawn) step(c *cache.Cache, m *model) (got, want string) {
	f, n, kind, now := d.fact(), d.name(), d.kind(), d.time()
	switch d.Intn(12) {
	case 0, 1, 2, 3:
		return call("Put", f, now, c.Put(f, now)), call("Put", f, now, m.put(f, now))
	case 4:
		return call("Lay", f, c.Lay(f)), call("Lay", f, m.lay(f))
	case 5, 6, 7:
		x, ok := c.Get(n, kind, now)
		y, is := m.get(n, kind, now)
		return call("Get", n, kind, now, x, ok), call("Get", n, kind, now, y, is)
	case 8, 9:
		x, ok := c.Old(n, kind, now)
		y, is := m.older(n, kind, now)
		return call("Old", n, kind, now, x, ok), call("Old", n, kind, now, y, is)
	case 10:
		x, ok := c.Look(n, kind)
		y, is := m.look(n, kind)
		return call("Look", n, kind, x, ok), call("Look", n, kind, y, is)
	}
	if d.Intn(4) > 0 || len(n) == 0 {
		return "", ""
	}
	return call("Flush", n, c.Flush(n)), call("Flush", n, m.flush(n))
}

func TestModel(t *testing.T) {
	for seed := range 300 {
		d := &drawn{rand.New(rand.NewSource(int64(seed))), 5}
		if seed%10 == 0 {
			d.now = maxTime - 20
		}
		m := &model{most: 1 + d.Intn(12), stale: []int{0, 1, 3, 10, maxTime}[d.Intn(5)]}
		c := begin(t, m.most, m.stale)
		for i := range 300 {
			if got, want := d.step(c, m); got != want {
				t.Fatalf("seed %d, step %d:\n%s, want\n%s", seed, i, got, want)
			}
			if d.Intn(20) == 0 {
				d.now++
				c = c.Copy()
			}
			knows(t, c, m.list...)
			if t.Failed() {
				t.Fatalf("seed %d, step %d", seed, i)
			}
		}
	}
}

// The same calls, from the beginning, have the same answers.
func TestTheSameCallsHaveTheSameAnswers(t *testing.T) {
	do := func() (lines []string) {
		d := &drawn{rand.New(rand.NewSource(7)), 5}
		m := &model{most: 9, stale: 3}
		c := begin(t, 9, 3)
		for range 500 {
			got, _ := d.step(c, m)
			lines = append(lines, got)
		}
		for _, f := range c.All() {
			lines = append(lines, call("All", f))
		}
		return lines
	}
	first := strings.Join(do(), "\n")
	for range 5 {
		if strings.Join(do(), "\n") != first {
			t.Fatal("other answers")
		}
	}
}
