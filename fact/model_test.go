package fact_test

import (
	"fmt"
	"math/rand"
	"slices"
	"strings"
	"testing"

	"gazetteer/api"
	"gazetteer/fact"
)

// The model has names as texts, all with a point ahead: so one is under another
// just if its text ends in the other's.
func path(n []string) string {
	if len(n) == 0 {
		return ""
	}
	return "." + strings.ToLower(strings.Join(n, "."))
}

func modelUnder(n, zone []string) bool {
	return strings.HasSuffix(path(n), path(zone))
}

// gathered is what a section has of a name and a type.
type gathered struct {
	set  []api.Data
	ttls []int
}

// gather sorts what counts of a section by name and type; order has the keys by
// their first records.
func gather(list []api.RR, zone []string) (by map[string]*gathered, order []string) {
	by = map[string]*gathered{}
	for _, r := range list {
		if r.Class != 1 || r.Type == 65535 || r.Type == 255 || !modelUnder(r.Name, zone) {
			continue
		}
		key := fmt.Sprint(path(r.Name), "/", r.Type)
		g := by[key]
		if g == nil {
			g = &gathered{}
			by[key] = g
			order = append(order, key)
		}
		g.ttls = append(g.ttls, r.TTL)
		said := func(d api.Data) bool { return lowered(d) == lowered(r.Data) }
		if !slices.ContainsFunc(g.set, said) {
			g.set = append(g.set, r.Data)
		}
	}
	return by, order
}

// lowered is a text that data have in common if they are the Same.
func lowered(d api.Data) string {
	return fmt.Sprintf("%q %q %q %d %q", d.Bytes, path(d.Host), path(d.Mail), d.Nums, d.Texts)
}

func (g *gathered) fact(n []string, kind, rank int) api.Fact {
	return api.Fact{Name: n, Type: kind, Kind: 1, Rank: rank, Got: now, TTL: min(slices.Min(g.ttls), maxTTL), Set: g.set[:min(len(g.set), maxSet)]}
}

// modelAnswers tells what Answers has, and the name at its end, of which there is
// something or nothing.
func modelAnswers(q api.Question, m api.Msg, zone []string) (out []api.Fact, n []string, some bool) {
	rank := 3
	if m.AA {
		rank = 4
	}
	by, order := gather(m.Answers, zone)
	n = q.Name
	if q.Type == 255 {
		for _, key := range order {
			kind := 0
			if at := strings.LastIndex(key, "/"); key[:at] == path(n) {
				fmt.Sscan(key[at+1:], &kind)
				out = append(out, by[key].fact(n, kind, rank))
			}
		}
		return out, n, len(out) > 0
	}
	gone := map[string]bool{}
	for q.Type != 5 && len(out) < maxHops && !gone[path(n)] {
		g := by[path(n)+"/5"]
		if g == nil {
			break
		}
		gone[path(n)] = true
		f := g.fact(n, 5, rank)
		f.Set = f.Set[:1]
		out = append(out, f)
		n = f.Set[0].Host
	}
	if g := by[fmt.Sprint(path(n), "/", q.Type)]; g != nil && q.Type != 65535 {
		return append(out, g.fact(n, q.Type, rank)), n, true
	}
	return out, n, false
}

// modelNothing tells what an SOA says of n.
func modelNothing(q api.Question, m api.Msg, zone, n []string) []api.Fact {
	f := api.Fact{Name: n, Kind: 3, Rank: 2, Got: now}
	if m.AA {
		f.Rank = 4
	}
	if m.Rcode == 0 {
		f.Kind, f.Type = 2, q.Type
		for _, r := range m.Auth {
			if r.Type == 2 && r.Class == 1 {
				return nil
			}
		}
		if q.Type == 255 || q.Type == 65535 || q.Type == 41 {
			return nil
		}
	}
	for _, r := range m.Auth {
		if r.Type == 6 && r.Class == 1 && modelUnder(r.Name, zone) && modelUnder(n, r.Name) {
			f.Zone, f.Soa, f.TTL = r.Name, r.Data, min(r.TTL, r.Data.Nums[4], maxNeg)
			return []api.Fact{f}
		}
	}
	return nil
}

func modelReferral(q api.Question, m api.Msg, zone []string) (out []api.Fact) {
	if len(m.Answers) > 0 || m.Rcode != 0 {
		return nil
	}
	auth, _ := gather(m.Auth, zone)
	extra, _ := gather(m.Extra, zone)
	for _, r := range m.Auth {
		if r.Type != 2 || r.Class != 1 || path(r.Name) == path(zone) || !modelUnder(r.Name, zone) || !modelUnder(q.Name, r.Name) {
			continue
		}
		out = append(out, auth[path(r.Name)+"/2"].fact(r.Name, 2, 2))
		for _, d := range out[0].Set {
			for _, kind := range []int{1, 28} {
				if g := extra[fmt.Sprint(path(d.Host), "/", kind)]; g != nil && modelUnder(d.Host, r.Name) {
					out = append(out, g.fact(d.Host, kind, 1))
				}
			}
		}
		return out
	}
	return nil
}

// modelFrom is as the document tells From, of names, times and messages that are
// sound.
func modelFrom(q api.Question, m api.Msg, zone []string) []api.Fact {
	if !m.Response || m.Opcode != 0 || m.Rcode != 0 && m.Rcode != 3 || len(m.Questions) != 1 {
		return nil
	}
	asked := m.Questions[0]
	if path(asked.Name) != path(q.Name) || asked.Type != q.Type || asked.Class != q.Class {
		return nil
	}
	out, n, some := modelAnswers(q, m, zone)
	if !some {
		out = append(out, modelNothing(q, m, zone, n)...)
	}
	return append(out, modelReferral(q, m, zone)...)
}

// drawer draws messages of few names, so that many of them meet.
type drawer struct {
	*rand.Rand
	names []string
}

func newDrawer(seed int) drawer {
	d := drawer{Rand: rand.New(rand.NewSource(int64(seed)))}
	all := []string{"", "a", "A", "b.a", "B.a", "b.A", "c.b.a", "C.b.a", "d.c.b.a", "e.b.a", "b", "x.b", "bb.a", "a.a", "e.a"}
	for range 2 + d.Intn(len(all)) {
		d.names = append(d.names, all[d.Intn(len(all))])
	}
	return d
}

func (d drawer) of(list ...int) int {
	return list[d.Intn(len(list))]
}

func (d drawer) name() string {
	return d.names[d.Intn(len(d.names))]
}

func (d drawer) ttl() int {
	return d.of(0, 1, 30, 60, 100, 10799, 10800, 10801, 604799, 604800, 604801, 1<<31-1)
}

func (d drawer) record(kinds ...int) api.RR {
	r := rec(d.name(), d.of(kinds...), d.ttl(), api.Data{})
	switch r.Type {
	case 1:
		r.Data = address(d.Intn(3))
	case 28:
		r.Data = long(byte(d.Intn(3)))
	case 2, 5:
		r.Data = host(d.name())
	case 6:
		r.Data = soa(d.ttl())
		r.Data.Host = name(d.name())
	default:
		r.Data = api.Data{Bytes: []byte{byte(d.Intn(3))}}
	}
	if d.Intn(12) == 0 {
		r.Class = d.of(0, 2, 3, 255)
	}
	return r
}

func (d drawer) records(most int, kinds ...int) (list []api.RR) {
	for range d.Intn(1 + most) {
		list = append(list, d.record(kinds...))
	}
	return list
}

func (d drawer) msg() api.Msg {
	q := ask(d.name(), d.of(1, 1, 1, 28, 2, 5, 6, 41, 255, 300, 65534, 65535))
	m := api.Msg{Response: true, AA: d.Intn(2) == 0, Rcode: d.of(0, 0, 3), Questions: []api.Question{q}}
	switch d.Intn(4) {
	case 0: // a referral
		m.Rcode = 0
	case 1: // a chain
		m.Answers = d.records(12, 5, 5, 5, 1, 28)
	default:
		m.Answers = d.records(8, 1, 1, 28, 2, 5, 5, 6, 255, 300, 65534, 65535)
	}
	m.Auth = d.records(5, 6, 6, 2, 1)
	if len(m.Answers) == 0 {
		m.Auth = d.records(8, 2, 2, 2, 2, 6, 1)
	}
	m.Extra = d.records(12, 1, 1, 28, 28, 2, 300)
	return m
}

// asTheModel holds From of m against the model.
func asTheModel(t *testing.T, q api.Question, m api.Msg, zone []string) []api.Fact {
	t.Helper()
	got, want := fact.From(q, m, zone, now), modelFrom(q, m, zone)
	if !slices.EqualFunc(got, want, exactly) {
		t.Fatalf("From(%+v, %.3000s, %v) is%.3000s\nnot%.3000s", q, fmt.Sprintf("%+v", m), zone, lines(got), lines(want))
	}
	for _, f := range got {
		if !fact.Sound(f) {
			t.Fatalf("From(%+v, %.3000s, %v) has %+v, which is not sound", q, fmt.Sprintf("%+v", m), zone, f)
		}
	}
	return got
}

func TestFromAsTheModel(t *testing.T) {
	seen := map[string]int{}
	for seed := range 3000 {
		d := newDrawer(seed)
		for range 20 {
			m := d.msg()
			zone := d.name()
			if d.Intn(3) > 0 {
				zone = ""
			}
			for _, f := range asTheModel(t, m.Questions[0], m, name(zone)) {
				seen[fmt.Sprint(f.Kind, " ", f.Rank)]++
			}
		}
	}
	// What is drawn tells facts of all ways in which they come.
	for _, way := range []string{"1 1", "1 2", "1 3", "1 4", "2 2", "2 4", "3 2", "3 4"} {
		if seen[way] < 500 {
			t.Errorf("facts of kind and rank %s: %d of %v", way, seen[way], seen)
		}
	}
}

// Messages that are responses to something else, or none.
func TestFromOthersAsTheModel(t *testing.T) {
	for seed := range 300 {
		d := newDrawer(seed)
		for range 20 {
			m := d.msg()
			q := m.Questions[0]
			q.Name = name(strings.ToUpper(strings.Join(q.Name, ".")))
			asTheModel(t, q, m, nil)
			q.Name = name(d.name())
			asTheModel(t, q, m, nil)
			m.Rcode = d.Intn(16)
			m.Opcode = d.of(0, 0, 1, 2)
			asTheModel(t, q, m, nil)
			q.Class = d.of(0, 1, 3)
			asTheModel(t, q, m, nil)
			m.Questions[0].Class = q.Class
			asTheModel(t, q, m, nil)
			q.Type = d.of(1, 2, 255)
			asTheModel(t, q, m, nil)
		}
	}
}

// Messages of very many records, so that sets are cut.
func TestFromLargeAsTheModel(t *testing.T) {
	for seed := range 200 {
		d := newDrawer(seed)
		d.names = d.names[:2]
		m := d.msg()
		m.Answers, m.Auth, m.Extra = nil, nil, nil
		for i := range 170 {
			a, b, c := d.record(1, 300), d.record(2, 2, 2, 6), d.record(1, 28)
			if a.Type == 1 {
				a.Data = address(i)
			}
			if b.Type == 2 {
				b.Data.Host = append([]string{fmt.Sprint("n", d.Intn(120))}, name(d.name())...)
				c.Name = b.Data.Host
			}
			m.Answers, m.Auth, m.Extra = append(m.Answers, a), append(m.Auth, b), append(m.Extra, c)
		}
		asTheModel(t, m.Questions[0], m, nil)
		m.Answers = nil
		asTheModel(t, m.Questions[0], m, nil)
	}
}
