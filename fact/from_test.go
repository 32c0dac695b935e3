package fact_test

import (
	"fmt"
	"math"
	"slices"
	"strings"
	"testing"

	"gazetteer/api"
	"gazetteer/fact"
)

func rec(n string, kind, ttl int, d api.Data) api.RR {
	return api.RR{Name: name(n), Type: kind, Class: api.IN, TTL: ttl, Data: d}
}

// classed is r of another class.
func classed(r api.RR, class int) api.RR {
	r.Class = class
	return r
}

func ask(n string, kind int) api.Question {
	return api.Question{Name: name(n), Type: kind, Class: api.IN}
}

// respond is a response to q that has no records.
func respond(q api.Question) api.Msg {
	return api.Msg{Response: true, Questions: []api.Question{q}}
}

// exactly tells whether a and b are one fact to the letter; nil and empty lists
// are the same.
func exactly(a, b api.Fact) bool {
	return a.Type == b.Type && a.Kind == b.Kind && a.Rank == b.Rank && a.Got == b.Got && a.TTL == b.TTL &&
		slices.Equal(a.Name, b.Name) && slices.Equal(a.Zone, b.Zone) &&
		exactlyData(a.Soa, b.Soa) && slices.EqualFunc(a.Set, b.Set, exactlyData)
}

func exactlyData(a, b api.Data) bool {
	return slices.Equal(a.Bytes, b.Bytes) && slices.Equal(a.Host, b.Host) && slices.Equal(a.Mail, b.Mail) &&
		slices.Equal(a.Nums, b.Nums) && slices.Equal(a.Texts, b.Texts)
}

func lines(list []api.Fact) string {
	var out strings.Builder
	for _, f := range list {
		fmt.Fprintf(&out, "\n\t%+v", f)
	}
	return out.String()
}

// tells holds what m, a response to its own question, tells at now.
func tells(t *testing.T, m api.Msg, zone string, want ...api.Fact) {
	t.Helper()
	got := fact.From(m.Questions[0], m, name(zone), now)
	if !slices.EqualFunc(got, want, exactly) {
		t.Errorf("From(%+v, %s) is%s\nnot%s", m, zone, lines(got), lines(want))
	}
}

// The document's example.
func TestFromAChain(t *testing.T) {
	m := respond(ask("a", api.A))
	m.AA = true
	m.Answers = []api.RR{rec("a", api.CNAME, 50, host("b")), rec("b", api.A, 60, address(4))}
	tells(t, m, "", has("a", api.CNAME, api.RankSure, 50, host("b")), has("b", api.A, api.RankSure, 60, address(4)))
	m.AA = false
	tells(t, m, "", has("a", api.CNAME, api.RankAnswer, 50, host("b")), has("b", api.A, api.RankAnswer, 60, address(4)))
	// In whatever order they stand, and however they are written.
	slices.Reverse(m.Answers)
	m.Answers[0].Name, m.Answers[1].Name = name("B"), name("A")
	tells(t, m, "", has("a", api.CNAME, api.RankAnswer, 50, host("b")), has("b", api.A, api.RankAnswer, 60, address(4)))
}

// refused holds that nothing is told.
func refused(t *testing.T, q api.Question, m api.Msg, zone []string, now int) {
	t.Helper()
	if got := fact.From(q, m, zone, now); len(got) != 0 {
		t.Errorf("From(%v, %+v, %v, %d) is%s", q, m, zone, now, lines(got))
	}
}

func plain() (api.Question, api.Msg) {
	q := ask("www.a", api.A)
	m := respond(q)
	m.Answers = []api.RR{rec("www.a", api.A, 60, address(4))}
	return q, m
}

func TestFromAtATime(t *testing.T) {
	q, m := plain()
	for _, at := range []int{0, 1, 1 << 40, maxTime - 1, maxTime} {
		if got := fact.From(q, m, nil, at); len(got) != 1 || got[0].Got != at {
			t.Errorf("From at %d is%s", at, lines(got))
		}
	}
	for _, at := range []int{-1, math.MinInt, maxTime + 1, 2 * maxTime, math.MaxInt} {
		refused(t, q, m, nil, at)
	}
}

func TestFromNamesThatAreNone(t *testing.T) {
	q, m := plain()
	refused(t, api.Question{}, api.Msg{}, nil, now)
	for _, n := range [][]string{{""}, {"www", ""}, {"", "a"}, {strings.Repeat("x", 64), "a"}, make([]string, 1000), slices.Repeat([]string{"a"}, 128)} {
		q, m := q, m
		q.Name = n
		m.Questions = []api.Question{q}
		m.Answers = []api.RR{{Name: n, Type: 1, Class: 1, Data: address(1)}}
		refused(t, q, m, nil, now)
		// The question alone, too.
		m.Questions[0].Name = name("www.a")
		refused(t, q, m, nil, now)
	}
	// What is told hangs on no zone that is none: not even what nothing is under.
	for _, zone := range [][]string{{""}, {"", "a"}, {strings.Repeat("x", 64)}, make([]string, 1000)} {
		refused(t, q, m, zone, now)
	}
}

func TestFromWhatIsNoResponse(t *testing.T) {
	for _, change := range []func(m *api.Msg){
		func(m *api.Msg) { m.Response = false },
		func(m *api.Msg) { m.Opcode = 1 },
		func(m *api.Msg) { m.Opcode = 15 },
		func(m *api.Msg) { m.Questions = nil },
		func(m *api.Msg) { m.Questions = append(m.Questions, m.Questions[0]) },
		func(m *api.Msg) { m.Questions = append([]api.Question{ask("b", api.A)}, m.Questions[0]) },
		func(m *api.Msg) { m.Questions = []api.Question{ask("a", api.A)} },
		func(m *api.Msg) { m.Questions = []api.Question{ask("www.www.a", api.A)} },
		func(m *api.Msg) { m.Questions = []api.Question{ask("www.a", api.AAAA)} },
		func(m *api.Msg) { m.Questions = []api.Question{ask("www.a", api.ANY)} },
		func(m *api.Msg) { m.Questions = []api.Question{{Name: name("www.a"), Type: api.A, Class: 3}} },
		func(m *api.Msg) { m.Questions = []api.Question{{Name: name("www.a"), Type: api.A, Class: 255}} },
	} {
		q, m := plain()
		change(&m)
		refused(t, q, m, nil, now)
	}
	for rcode := range 16 {
		q, m := plain()
		m.Rcode = rcode
		if rcode == api.NoError || rcode == api.NXDomain {
			tells(t, m, "", has("www.a", api.A, api.RankAnswer, 60, address(4)))
		} else {
			refused(t, q, m, nil, now)
		}
	}
}

// What is not sound is refused, though an SOA alone would be read.
func TestFromNothingThatIsNotSound(t *testing.T) {
	q := ask("www.a", api.A)
	for _, d := range []api.Data{{}, {Nums: []int{1}}, {Nums: []int{1, 2, 3, 4}}, {Nums: []int{1, 2, 3, 4, 1 << 32}}, address(1)} {
		m := respond(q)
		m.Auth = []api.RR{rec("a", api.SOA, 60, d)}
		refused(t, q, m, nil, now)
		m.Rcode = api.NXDomain
		refused(t, q, m, nil, now)
	}
}

func TestFromAMessageThatIsNotSound(t *testing.T) {
	for _, change := range []func(m *api.Msg){
		func(m *api.Msg) { m.ID = -1 },
		func(m *api.Msg) { m.ID = 65536 },
		func(m *api.Msg) { m.Size = 512 },
		func(m *api.Msg) { m.Auth = []api.RR{rec("www.a", api.A, -1, address(1))} },
		func(m *api.Msg) { m.Auth = []api.RR{rec("a", api.SOA, 5, api.Data{})} },
		func(m *api.Msg) { m.Auth = []api.RR{rec("a", api.SOA, 5, soa(-1))} },
		func(m *api.Msg) { m.Auth = make([]api.RR, 1<<16) },
		func(m *api.Msg) { m.Answers[0].Data = api.Data{} },
		func(m *api.Msg) { m.Extra = []api.RR{rec("b", api.A, 5, long(1))} },
		func(m *api.Msg) { m.Extra = []api.RR{rec("", api.OPT, 0, api.Data{})} },
		func(m *api.Msg) { m.Answers = append(m.Answers, rec("www.a", 0, 5, api.Data{})) },
		func(m *api.Msg) { m.Answers = append(m.Answers, rec("www.a", 65536, 5, api.Data{})) },
		func(m *api.Msg) { m.Answers = append(m.Answers, rec("b..a", api.A, 5, address(1))) },
		func(m *api.Msg) { m.Answers = append(m.Answers, rec("b", api.A, 1<<31, address(1))) },
		func(m *api.Msg) { m.Extra = slices.Repeat([]api.RR{rec("b", api.A, 5, address(1))}, 511) },
	} {
		q, m := plain()
		change(&m)
		refused(t, q, m, nil, now)
	}
	// Just as many as may be; and what does not matter here.
	_, m := plain()
	m.Extra = slices.Repeat([]api.RR{rec("b", api.A, 5, address(1))}, 510)
	m.ID, m.TC, m.RD, m.RA, m.Edns, m.Size = 65535, true, true, true, true, 65535
	tells(t, m, "", has("www.a", api.A, api.RankAnswer, 60, address(4)))
}

// The fact's name is written as the question's.
func TestFromTheQuestionsLetters(t *testing.T) {
	q, m := plain()
	q.Name = name("wWw.A")
	want := []api.Fact{has("wWw.A", api.A, api.RankAnswer, 60, address(4))}
	if got := fact.From(q, m, name("A"), now); !slices.EqualFunc(got, want, exactly) {
		t.Errorf("From is%s", lines(got))
	}
}

// Records of class IN tell facts, whatever class was asked.
func TestFromClasses(t *testing.T) {
	q := api.Question{Name: name("www.a"), Type: api.A, Class: 3}
	m := respond(q)
	for _, class := range []int{0, 2, 3, 255, 257, 65535} {
		m.Answers = []api.RR{
			classed(rec("www.a", api.CNAME, 60, host("x")), class), classed(rec("www.a", api.A, 60, address(4)), class),
			rec("www.a", api.A, 50, address(5)), classed(rec("www.a", api.A, 40, address(6)), class),
		}
		tells(t, m, "", has("www.a", api.A, api.RankAnswer, 50, address(5)))
	}
	m.Answers = nil
	m.Auth = []api.RR{classed(rec("a", api.SOA, 60, soa(60)), 3), classed(rec("www.a", api.NS, 60, host("ns.www.a")), 3)}
	m.Extra = []api.RR{classed(rec("ns.www.a", api.A, 60, address(4)), 3)}
	tells(t, m, "")
	m.Auth = append(m.Auth, rec("www.a", api.NS, 50, host("ns.www.a")))
	tells(t, m, "", has("www.a", api.NS, api.RankAuth, 50, host("ns.www.a")))
	m.Extra = append(m.Extra, rec("ns.www.a", api.A, 40, address(5)))
	tells(t, m, "", has("www.a", api.NS, api.RankAuth, 50, host("ns.www.a")), has("ns.www.a", api.A, api.RankExtra, 40, address(5)))
}

// Names that are not under the zone do not count, though the chain leads there.
func TestFromNamesUnderTheZone(t *testing.T) {
	m := respond(ask("www.a", api.A))
	m.AA = true
	m.Answers = []api.RR{rec("www.a", api.CNAME, 60, host("x.b")), rec("x.b", api.A, 60, address(4))}
	for _, zone := range []string{"a", "A", "www.a"} {
		tells(t, m, zone, has("www.a", api.CNAME, api.RankSure, 60, host("x.b")))
	}
	tells(t, m, "b")
	tells(t, m, "x.www.a")
	tells(t, m, "ww.a")
	m.Answers[1] = rec("www.a", api.A, 60, address(4))
	m.Answers[0] = rec("x.b", api.CNAME, 60, host("www.a"))
	tells(t, m, "a", has("www.a", api.A, api.RankSure, 60, address(4)))
	tells(t, m, "b")
}

func TestFromAnswers(t *testing.T) {
	m := respond(ask("www.a", api.MX))
	x, y := api.Data{Nums: []int{1}, Host: name("x")}, api.Data{Nums: []int{2}, Host: name("x")}
	m.Answers = []api.RR{
		rec("www.a", api.A, 1, address(1)), rec("www.a", api.MX, 70, x), rec("a", api.MX, 2, y), rec("b.www.a", api.MX, 3, y),
		rec("WWW.a", api.MX, 80, y), rec("www.A", api.MX, 60, x), rec("www.a", api.SRV, 4, api.Data{Nums: []int{1, 2, 3}}),
	}
	m.Auth = []api.RR{rec("www.a", api.MX, 5, api.Data{Nums: []int{3}})}
	m.Extra = m.Auth
	tells(t, m, "", has("www.a", api.MX, api.RankAnswer, 60, x, y))
	m.AA = true
	tells(t, m, "", has("www.a", api.MX, api.RankSure, 60, x, y))
	m.Rcode = api.NXDomain
	tells(t, m, "", has("www.a", api.MX, api.RankSure, 60, x, y))
	m.Answers = m.Answers[:1]
	tells(t, m, "")
}

func TestFromClampsTTLs(t *testing.T) {
	for _, ttl := range []int{0, 1, maxNeg + 1, maxTTL - 1, maxTTL, maxTTL + 1, 1<<31 - 1} {
		least := min(ttl, maxTTL)
		m := respond(ask("www.a", api.A))
		m.Answers = []api.RR{
			rec("www.a", api.CNAME, ttl, host("x")), rec("x", api.A, 1<<31-1, address(1)), rec("x", api.A, ttl, address(2)),
		}
		tells(t, m, "", has("www.a", api.CNAME, api.RankAnswer, least, host("x")), has("x", api.A, api.RankAnswer, least, address(1), address(2)))
		m = respond(ask("www.a", api.A))
		m.Auth = []api.RR{rec("a", api.NS, ttl, host("a"))}
		m.Extra = []api.RR{rec("a", api.A, ttl, address(1))}
		tells(t, m, "", has("a", api.NS, api.RankAuth, least, host("a")), has("a", api.A, api.RankExtra, least, address(1)))
	}
}

// Of a set the first 64 alone are told; the TTL is the least of the whole.
func TestFromTheFirstOfASet(t *testing.T) {
	for _, size := range []int{1, 2, maxSet - 1, maxSet, maxSet + 1, 2 * maxSet, 300} {
		m := respond(ask("www.a", api.A))
		var set []api.Data
		for i := range size {
			m.Answers = append(m.Answers, rec("www.a", api.A, 1000-i, address(i)), rec("www.a", api.A, 1000, address(i/2)))
			set = append(set, address(i))
		}
		if 2*size > 500 {
			m.Answers = m.Answers[:500]
			size = 250
		}
		tells(t, m, "", has("www.a", api.A, api.RankAnswer, 1001-size, set[:min(size, maxSet)]...))
	}
}

func TestFromTheFirstServers(t *testing.T) {
	m := respond(ask("www.a", api.A))
	var set []api.Data
	var want []api.Fact
	for i := range maxSet + 2 {
		d := host(fmt.Sprint("ns", i, ".a"))
		set = append(set, d)
		m.Auth = append(m.Auth, rec("a", api.NS, 60, d))
		// One that is left out of the set has no address either.
		m.Extra = append([]api.RR{rec(fmt.Sprint("ns", i, ".a"), api.A, 60, address(i))}, m.Extra...)
	}
	want = append(want, has("a", api.NS, api.RankAuth, 60, set[:maxSet]...))
	for i := range maxSet {
		want = append(want, has(fmt.Sprint("ns", i, ".a"), api.A, api.RankExtra, 60, address(i)))
	}
	tells(t, m, "", want...)
	m = respond(ask("www.a", api.A))
	m.Auth = []api.RR{rec("a", api.NS, 60, host("a"))}
	for i := range maxSet + 1 {
		m.Extra = append(m.Extra, rec("a", api.A, 60, address(i)), rec("a", api.AAAA, 50, long(byte(i))))
	}
	got := fact.From(m.Questions[0], m, nil, now)
	if len(got) != 3 || len(got[1].Set) != maxSet || len(got[2].Set) != maxSet {
		t.Errorf("From is%s", lines(got))
	}
}

// Of several CNAMEs of a name the first one alone is told, with the least TTL.
func TestFromTheFirstCNAME(t *testing.T) {
	m := respond(ask("a", api.A))
	m.Answers = []api.RR{
		rec("c", api.A, 60, address(3)), rec("b", api.A, 60, address(2)),
		rec("a", api.CNAME, 50, host("b")), rec("a", api.CNAME, 40, host("c")), rec("A", api.CNAME, 70, host("B")),
	}
	tells(t, m, "", has("a", api.CNAME, api.RankAnswer, 40, host("b")), has("b", api.A, api.RankAnswer, 60, address(2)))
}

// A CNAME leads on, also where the name has what was asked.
func TestFromCNAMEAheadOfAnswers(t *testing.T) {
	m := respond(ask("a", api.A))
	m.Answers = []api.RR{rec("a", api.A, 60, address(1)), rec("a", api.CNAME, 60, host("B")), rec("b", api.TXT, 60, api.Data{Texts: []string{""}})}
	tells(t, m, "", has("a", api.CNAME, api.RankAnswer, 60, host("B")))
	m.Answers = append(m.Answers, rec("b", api.A, 50, address(2)))
	tells(t, m, "", has("a", api.CNAME, api.RankAnswer, 60, host("B")), has("B", api.A, api.RankAnswer, 50, address(2)))
	// One that was not asked for, of a name that the chain does not lead to.
	m.Questions[0] = ask("x", api.A)
	tells(t, m, "")
}

// With the type CNAME, or ANY, no chain is gone along.
func TestFromNoChain(t *testing.T) {
	m := respond(ask("a", api.CNAME))
	m.Answers = []api.RR{rec("a", api.CNAME, 50, host("b")), rec("b", api.CNAME, 60, host("c")), rec("a", api.CNAME, 40, host("c"))}
	tells(t, m, "", has("a", api.CNAME, api.RankAnswer, 40, host("b"), host("c")))
	m.Questions[0].Type = api.ANY
	tells(t, m, "", has("a", api.CNAME, api.RankAnswer, 40, host("b"), host("c")))
	m.AA = true
	m.Answers = []api.RR{
		rec("A", api.TXT, 50, api.Data{Texts: []string{"x"}}), rec("b", api.A, 60, address(1)), rec("a", api.A, 70, address(2)),
		classed(rec("a", api.MX, 60, api.Data{Nums: []int{1}}), 3), rec("a", api.TXT, 40, api.Data{Texts: []string{"y"}}), rec("a", api.CNAME, 30, host("b")),
		rec("a", api.ANY, 20, api.Data{}), rec("a", 65535, 10, api.Data{}), rec("a", 65534, 5, api.Data{}),
	}
	want := []api.Fact{
		has("a", api.TXT, api.RankSure, 40, api.Data{Texts: []string{"x"}}, api.Data{Texts: []string{"y"}}),
		has("a", api.A, api.RankSure, 70, address(2)), has("a", api.CNAME, api.RankSure, 30, host("b")),
		has("a", 65534, api.RankSure, 5, api.Data{}),
	}
	tells(t, m, "", want...)
	m.Rcode = api.NXDomain
	m.Auth = []api.RR{rec("", api.SOA, 60, soa(60))}
	tells(t, m, "", want...)
}

// links are CNAMEs from x0 on, each to the next one.
func links(n int) (list []api.RR, facts []api.Fact) {
	for i := range n {
		from, to := fmt.Sprint("x", i), fmt.Sprint("x", i+1)
		list = append(list, rec(from, api.CNAME, 100+i, host(to)))
		facts = append(facts, has(from, api.CNAME, api.RankAnswer, 100+i, host(to)))
	}
	return list, facts
}

// At most 16 CNAMEs are gone along; the name behind the last one counts.
func TestFromHops(t *testing.T) {
	for n := range 30 {
		m := respond(ask("x0", api.A))
		list, facts := links(n)
		m.Answers = append(m.Answers, list...)
		for i := range n + 1 {
			m.Answers = append(m.Answers, rec(fmt.Sprint("x", i), api.A, 60, address(i)))
		}
		end := min(n, maxHops)
		tells(t, m, "", append(facts[:end:end], has(fmt.Sprint("x", end), api.A, api.RankAnswer, 60, address(end)))...)
		slices.Reverse(m.Answers)
		tells(t, m, "", append(facts[:end:end], has(fmt.Sprint("x", end), api.A, api.RankAnswer, 60, address(end)))...)
		m.Answers = list
		m.Auth = []api.RR{rec("", api.SOA, 60, soa(60))}
		tells(t, m, "", append(facts[:end:end], noData(fmt.Sprint("x", end), api.A, api.RankAuth, 60, "", soa(60)))...)
	}
}

// Each name is gone along once; then what is asked for of it is sought.
func TestFromRounds(t *testing.T) {
	m := respond(ask("a", api.A))
	m.Answers = []api.RR{rec("a", api.CNAME, 60, host("A"))}
	tells(t, m, "", has("a", api.CNAME, api.RankAnswer, 60, host("A")))
	m.Answers = append(m.Answers, rec("a", api.A, 50, address(1)))
	tells(t, m, "", has("a", api.CNAME, api.RankAnswer, 60, host("A")), has("A", api.A, api.RankAnswer, 50, address(1)))
	for n := 2; n < 20; n++ {
		m := respond(ask("x0", api.A))
		list, facts := links(n)
		for _, back := range []int{0, 1, n - 1} {
			end := host(strings.ToUpper(fmt.Sprint("x", back)))
			m.Answers = slices.Clone(list)
			m.Answers[n-1].Data = end
			facts[n-1].Set = []api.Data{end}
			tells(t, m, "", facts[:min(n, maxHops)]...)
		}
	}
}

func TestFromNoName(t *testing.T) {
	m := respond(ask("www.a", api.A))
	m.Rcode, m.AA = api.NXDomain, true
	tells(t, m, "")
	m.Auth = []api.RR{rec("a", api.SOA, 60, soa(50))}
	tells(t, m, "", noName("www.a", api.RankSure, 50, "a", soa(50)))
	m.AA = false
	tells(t, m, "", noName("www.a", api.RankAuth, 50, "a", soa(50)))
	// Whatever type was asked, be it one that no fact has.
	for _, kind := range []int{api.ANY, api.OPT, api.CNAME, api.SOA, 65534, 65535} {
		m.Questions[0].Type = kind
		tells(t, m, "", noName("www.a", api.RankAuth, 50, "a", soa(50)))
	}
	// Servers beside it are of no matter.
	m.Auth = append(m.Auth, rec("www.a", api.NS, 60, host("ns.www.a")), rec("a", api.NS, 60, host("ns.www.a")))
	m.Extra = []api.RR{rec("ns.www.a", api.A, 60, address(1))}
	tells(t, m, "", noName("www.a", api.RankAuth, 50, "a", soa(50)))
	m.Auth = m.Auth[1:]
	tells(t, m, "")
	// Behind a chain it is the name at its end that is not there.
	m = respond(ask("www.a", api.A))
	m.Rcode, m.AA = api.NXDomain, true
	m.Answers = []api.RR{rec("www.a", api.CNAME, 40, host("x.B"))}
	m.Auth = []api.RR{rec("a", api.SOA, 60, soa(50)), rec("b", api.SOA, 50, soa(60))}
	tells(t, m, "", has("www.a", api.CNAME, api.RankSure, 40, host("x.B")), noName("x.B", api.RankSure, 50, "b", soa(60)))
	tells(t, m, "a", has("www.a", api.CNAME, api.RankSure, 40, host("x.B")))
	tells(t, m, "b")
	// Where there are records of the name, it is there.
	m.Answers = append(m.Answers, rec("X.b", api.A, 30, address(1)))
	tells(t, m, "", has("www.a", api.CNAME, api.RankSure, 40, host("x.B")), has("x.B", api.A, api.RankSure, 30, address(1)))
	m.Answers[1].Type, m.Answers[1].Data = api.AAAA, long(1)
	tells(t, m, "", has("www.a", api.CNAME, api.RankSure, 40, host("x.B")), noName("x.B", api.RankSure, 50, "b", soa(60)))
}

func TestFromNoData(t *testing.T) {
	m := respond(ask("www.a", api.A))
	m.AA = true
	m.Auth = []api.RR{rec("a", api.SOA, 60, soa(50))}
	tells(t, m, "", noData("www.a", api.A, api.RankSure, 50, "a", soa(50)))
	m.AA = false
	tells(t, m, "", noData("www.a", api.A, api.RankAuth, 50, "a", soa(50)))
	for _, kind := range []int{api.CNAME, api.SOA, api.NS, 65534} {
		m.Questions[0].Type = kind
		tells(t, m, "", noData("www.a", kind, api.RankAuth, 50, "a", soa(50)))
	}
	for _, kind := range []int{api.ANY, api.OPT, 65535} {
		m.Questions[0].Type = kind
		tells(t, m, "")
	}
	m.Questions[0].Type = api.A
	m.Answers = []api.RR{rec("www.a", api.CNAME, 40, host("x.a"))}
	tells(t, m, "a", has("www.a", api.CNAME, api.RankAnswer, 40, host("x.a")), noData("x.a", api.A, api.RankAuth, 50, "a", soa(50)))
	m.Answers = []api.RR{rec("x.a", api.A, 40, address(1)), rec("www.a", api.AAAA, 40, long(1))}
	tells(t, m, "a", noData("www.a", api.A, api.RankAuth, 50, "a", soa(50)))
	m.Answers = []api.RR{rec("www.a", api.A, 40, address(1))}
	tells(t, m, "a", has("www.a", api.A, api.RankAnswer, 40, address(1)))
}

// An NS of class IN in Auth, of whatever name, says that the SOA does not tell
// that there is no data.
func TestFromNoDataBesideServers(t *testing.T) {
	m := respond(ask("www.a", api.A))
	for _, n := range []string{"a", "", "b", "x.y.b", "www.a", "x.www.a"} {
		m.Answers = []api.RR{rec("a", api.A, 60, address(1))}
		m.Auth = []api.RR{rec("a", api.SOA, 60, soa(50)), rec(n, api.NS, 60, host("x"))}
		tells(t, m, "a")
		slices.Reverse(m.Auth)
		tells(t, m, "a")
		m.Auth[0].Class = 3
		tells(t, m, "a", noData("www.a", api.A, api.RankAuth, 50, "a", soa(50)))
		m.Auth[0] = rec(n, api.CNAME, 60, host("x"))
		m.Answers = append(m.Answers, rec("a", api.NS, 60, host("x")))
		m.Extra = []api.RR{rec("a", api.NS, 60, host("x"))}
		tells(t, m, "a", noData("www.a", api.A, api.RankAuth, 50, "a", soa(50)))
	}
}

// The TTL is the least of the SOA's and its last number.
func TestFromSecondsOfNothing(t *testing.T) {
	list := []int{0, 1, 60, maxNeg - 1, maxNeg, maxNeg + 1, maxTTL, maxTTL + 1, 1<<31 - 1}
	for _, ttl := range list {
		for _, last := range append(list, 1<<31, 1<<32-1) {
			m := respond(ask("www.a", api.A))
			m.Auth = []api.RR{rec("a", api.SOA, ttl, soa(last))}
			want := min(ttl, last, maxNeg)
			tells(t, m, "", noData("www.a", api.A, api.RankAuth, want, "a", soa(last)))
			m.Rcode = api.NXDomain
			tells(t, m, "", noName("www.a", api.RankAuth, want, "a", soa(last)))
		}
	}
}

// The first SOA of a zone between the server's and the name counts, and of it
// the record alone.
func TestFromWhichSOA(t *testing.T) {
	m := respond(ask("x.www.a", api.A))
	m.Rcode = api.NXDomain
	zones := []struct {
		zone string
		want []string // SOAs that may be; the first one is told
	}{
		{"", []string{"", "a", "www.a", "X.www.A"}},
		{"a", []string{"a", "www.a", "X.www.A"}},
		{"www.A", []string{"www.a", "X.www.A"}},
		{"x.www.a", []string{"X.www.A"}},
		{"y.x.www.a", nil},
		{"b", nil},
	}
	for _, z := range zones {
		for _, first := range [][]string{
			{"b", "y.x.www.a", "ww.a", "w.a", "x.a", "", "a", "www.a", "X.www.A"},
			{"X.www.A", "www.a", "b", "a", ""},
			{"www.a", "", "X.www.A", "a"},
			{"a", "X.www.A", "www.a", ""},
		} {
			m.Auth = nil
			told := ""
			found := false
			for i, n := range first {
				m.Auth = append(m.Auth, rec(n, api.SOA, 100+i, soa(1000)))
				if !found && slices.Contains(z.want, n) {
					told, found = n, true
				}
			}
			if !found {
				tells(t, m, z.zone)
				continue
			}
			tells(t, m, z.zone, noName("x.www.a", api.RankAuth, 100+slices.Index(first, told), told, soa(1000)))
		}
	}
	m.Auth = []api.RR{
		classed(rec("a", api.SOA, 10, soa(1)), 3), rec("a", api.SOA, 70, soa(60)), rec("A", api.SOA, 5, soa(60)), rec("a", api.SOA, 80, soa(3)),
	}
	tells(t, m, "", noName("x.www.a", api.RankAuth, 60, "a", soa(60)))
	// Not one of another section.
	m.Auth, m.Answers, m.Extra = nil, m.Auth, m.Auth
	tells(t, m, "")
}

func TestFromAReferral(t *testing.T) {
	m := respond(ask("x.www.a", api.A))
	m.Auth = []api.RR{
		rec("a", api.NS, 60, host("ns2.a")), rec("A", api.NS, 50, host("Ns1.a")), rec("a", api.NS, 70, host("ns.b")),
		rec("a", api.NS, 70, host("NS2.A")), rec("a", api.TXT, 5, api.Data{Texts: []string{"x"}}), rec("b", api.NS, 5, host("x.b")),
		rec("a", api.NS, 70, host("a")), rec("a", api.NS, 70, host("none.a")),
	}
	m.Extra = []api.RR{
		rec("ns1.a", api.AAAA, 40, long(1)), rec("ns1.a", api.A, 41, address(1)), rec("ns.b", api.A, 42, address(2)),
		rec("ns2.a", api.A, 43, address(3)), rec("ns2.a", api.A, 44, address(4)), rec("other.a", api.A, 45, address(5)),
		rec("NS2.a", api.AAAA, 46, long(2)), rec("ns2.a", api.TXT, 1, api.Data{Texts: []string{"x"}}), rec("A", api.AAAA, 47, long(3)),
		classed(rec("ns2.a", api.A, 1, address(6)), 3), rec("ns2.a", api.A, 42, address(3)),
	}
	want := []api.Fact{
		has("a", api.NS, api.RankAuth, 50, host("ns2.a"), host("Ns1.a"), host("ns.b"), host("a"), host("none.a")),
		has("ns2.a", api.A, api.RankExtra, 42, address(3), address(4)), has("ns2.a", api.AAAA, api.RankExtra, 46, long(2)),
		has("Ns1.a", api.A, api.RankExtra, 41, address(1)), has("Ns1.a", api.AAAA, api.RankExtra, 40, long(1)),
		has("a", api.AAAA, api.RankExtra, 47, long(3)),
	}
	tells(t, m, "", want...)
	// AA makes none of it more sure.
	m.AA = true
	tells(t, m, "", want...)
	// Addresses are told by Extra alone.
	m.Auth = append(m.Auth, rec("none.a", api.A, 60, address(1)))
	tells(t, m, "", want...)
	tells(t, m, "a")
	tells(t, m, "b")
	tells(t, m, "www.a")
	m.Rcode = api.NXDomain
	tells(t, m, "")
}

// Any Answer at all says that it is no referral.
func TestFromAnswersBesideServers(t *testing.T) {
	ns := []api.RR{rec("a", api.NS, 60, host("ns.a"))}
	m := respond(ask("www.a", api.A))
	m.Auth, m.Extra = ns, []api.RR{rec("ns.a", api.A, 60, address(1))}
	for _, r := range []api.RR{
		rec("b", api.A, 60, address(1)), classed(rec("www.a", api.A, 60, address(1)), 3), rec("www.a", 65535, 60, api.Data{}),
		rec("www.a", api.ANY, 60, api.Data{}), rec("www.a", api.AAAA, 60, long(1)), rec("a", api.NS, 60, host("ns.a")),
	} {
		m.Answers = []api.RR{r}
		tells(t, m, "")
	}
	m.Answers = []api.RR{rec("www.a", api.A, 60, address(1))}
	tells(t, m, "", has("www.a", api.A, api.RankAnswer, 60, address(1)))
	m.Answers = []api.RR{rec("www.a", api.CNAME, 60, host("x.a"))}
	tells(t, m, "", has("www.a", api.CNAME, api.RankAnswer, 60, host("x.a")))
	// One out of the zone, of a zone that is not the root.
	m = respond(ask("www.b.a", api.A))
	m.Auth = []api.RR{rec("b.a", api.NS, 60, host("ns.b.a"))}
	tells(t, m, "a", has("b.a", api.NS, api.RankAuth, 60, host("ns.b.a")))
	m.Answers = []api.RR{rec("b", api.A, 60, address(1))}
	tells(t, m, "a")
}

// The first name that may be referred to counts, though others stand ahead.
func TestFromWhichServers(t *testing.T) {
	m := respond(ask("x.www.a", api.NS))
	for _, c := range []struct{ zone, names, want string }{
		{"", " www.a a", "www.a"},
		{"", " a www.a", "a"},
		{"", "b a x.www.a", "a"},
		{"", "y.x.www.a ww.a w.a x.a X.WWW.a a", "X.WWW.a"},
		{"", "", ""},
		{"a", " a www.a x.www.a", "www.a"},
		{"a", "A  b b.a x.www.a www.a", "x.www.a"},
		{"A", "a  b", ""},
		{"www.a", "www.a a  x.www.A", "x.www.A"},
		{"x.www.a", "x.www.a www.a a  X.www.a y.x.www.a", ""},
		{"b", "a www.a b x.b", ""},
	} {
		m.Auth = nil
		for _, n := range strings.Split(c.names, " ") {
			m.Auth = append(m.Auth, rec(n, api.NS, 60, host("ns.x")))
		}
		if c.want == "" {
			tells(t, m, c.zone)
		} else {
			tells(t, m, c.zone, has(c.want, api.NS, api.RankAuth, 60, host("ns.x")))
		}
	}
}

// Addresses count of hosts under the zone that is referred to.
func TestFromWhichAddresses(t *testing.T) {
	m := respond(ask("www.b.a", api.A))
	for _, c := range []struct {
		n     string
		under bool
	}{
		{"b.a", true}, {"B.A", true}, {"ns.b.a", true}, {"x.y.b.a", true}, {"www.b.a", true},
		{"a", false}, {"", false}, {"ns.a", false}, {"bb.a", false}, {"b", false}, {"ns.b", false}, {"c.a", false}, {"b.a.b", false},
	} {
		m.Auth = []api.RR{rec("b.a", api.NS, 60, host(c.n))}
		m.Extra = []api.RR{rec(c.n, api.AAAA, 40, long(1)), rec(c.n, api.A, 50, address(1))}
		want := []api.Fact{has("b.a", api.NS, api.RankAuth, 60, host(c.n))}
		if c.under {
			want = append(want, has(c.n, api.A, api.RankExtra, 50, address(1)), has(c.n, api.AAAA, api.RankExtra, 40, long(1)))
		}
		tells(t, m, "", want...)
		tells(t, m, "a", want...)
	}
}

// Records of types that no fact has do not count.
func TestFromTypesOfNoFact(t *testing.T) {
	for _, kind := range []int{api.ANY, 65535} {
		m := respond(ask("www.a", kind))
		m.Answers = []api.RR{rec("www.a", kind, 60, api.Data{})}
		tells(t, m, "")
		m.Auth = []api.RR{rec("a", api.SOA, 60, soa(60))}
		tells(t, m, "")
		m.Rcode = api.NXDomain
		tells(t, m, "", noName("www.a", api.RankAuth, 60, "a", soa(60)))
	}
	for _, kind := range []int{65534, 256, 254, 40, 42} {
		m := respond(ask("www.a", kind))
		m.Answers = []api.RR{rec("www.a", kind, 60, api.Data{})}
		tells(t, m, "", has("www.a", kind, api.RankAnswer, 60, api.Data{}))
	}
}

// A chain is told also ahead of a type that no fact has.
func TestFromAChainAheadOfNothing(t *testing.T) {
	for _, kind := range []int{api.OPT, 65535} {
		m := respond(ask("www.a", kind))
		m.Answers = []api.RR{rec("www.a", api.CNAME, 60, host("x.a"))}
		m.Auth = []api.RR{rec("a", api.SOA, 60, soa(60))}
		tells(t, m, "", has("www.a", api.CNAME, api.RankAnswer, 60, host("x.a")))
	}
}
