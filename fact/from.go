package fact

import (
	"slices"

	"gazetteer/api"
	"gazetteer/msg"
	"gazetteer/name"
	"gazetteer/rr"
	"gazetteer/ttl"
)

// From answers, in order, the facts that m tells at now: a response to q of a
// server of zone.
func From(q api.Question, m api.Msg, zone []string, now int) []api.Fact {
	if !name.Sound(q.Name) || !name.Sound(zone) || !isTime(now) || !answers(m, q) {
		return nil
	}
	t := newTeller(q, m, zone, now)
	n := t.chain()
	if !t.records(n) {
		t.nothing(n)
	}
	t.referral()
	return t.facts
}

// answers tells whether m is a sound response to q, and to q alone.
func answers(m api.Msg, q api.Question) bool {
	if !msg.Sound(m) || !m.Response || m.Opcode != 0 || len(m.Questions) != 1 {
		return false
	}
	asked := m.Questions[0]
	return (m.Rcode == api.NoError || m.Rcode == api.NXDomain) &&
		name.Equal(asked.Name, q.Name) && asked.Type == q.Type && asked.Class == q.Class
}

// teller gathers the facts that a response tells.
type teller struct {
	q    api.Question
	m    api.Msg // the response, with whatever it has
	zone []string
	now  int
	// What counts of the response's sections.
	answers, auth, extra []api.RR
	facts                []api.Fact
}

func newTeller(q api.Question, m api.Msg, zone []string, now int) *teller {
	t := &teller{q: q, m: m, zone: zone, now: now}
	t.answers = t.counting(m.Answers)
	t.auth = t.counting(m.Auth)
	t.extra = t.counting(m.Extra)
	return t
}

// counting answers those of list that a server of the zone may tell facts by.
func (t *teller) counting(list []api.RR) []api.RR {
	var out []api.RR
	for _, r := range list {
		if r.Class == api.IN && isKind(r.Type) && name.Under(r.Name, t.zone) {
			out = append(out, r)
		}
	}
	return out
}

// chain tells the CNAMEs that lead on from the question's name, and answers the
// name behind them.
func (t *teller) chain() []string {
	n := t.q.Name
	if t.q.Type == api.CNAME || t.q.Type == api.ANY {
		return n
	}
	var gone [][]string
	wasGone := func(x []string) bool { return name.Equal(x, n) }
	for len(gone) < api.MaxHops && !slices.ContainsFunc(gone, wasGone) {
		set, least := rr.Set(t.answers, n, api.CNAME)
		if len(set) == 0 {
			break
		}
		t.has(n, api.CNAME, set[:1], least, t.answerRank())
		gone = append(gone, n)
		n = set[0].Host
	}
	return n
}

// records tells what Answers has of n that was asked for, and whether that is
// anything.
func (t *teller) records(n []string) bool {
	found := false
	for _, x := range rr.Names(t.answers) {
		if name.Equal(x.Name, n) && (x.Type == t.q.Type || t.q.Type == api.ANY) {
			t.set(t.answers, n, x.Type, t.answerRank())
			found = true
		}
	}
	return found
}

// nothing tells that n, or n with the question's type, is not there, if an SOA
// says so.
func (t *teller) nothing(n []string) {
	at := slices.IndexFunc(t.auth, func(r api.RR) bool {
		return r.Type == api.SOA && name.Under(n, r.Name)
	})
	if at < 0 {
		return
	}
	// The record alone: of others of its zone neither data nor TTL is of matter.
	z := t.auth[at].Name
	soa, seconds := rr.Set(t.auth[at:at+1], z, api.SOA)
	nums := soa[0].Nums
	f := api.Fact{Kind: api.NoName, Rank: api.RankAuth, Zone: slices.Clone(z), Soa: soa[0]}
	f.TTL = ttl.Clamp(min(seconds, nums[len(nums)-1]), true)
	if t.m.AA {
		f.Rank = api.RankSure
	}
	if t.m.Rcode != api.NXDomain {
		if t.refers() {
			return
		}
		f.Kind, f.Type = api.NoData, t.q.Type
	}
	t.add(n, f)
}

// refers tells whether Auth names servers. Whatever zone they are of: then its
// SOA does not say that there is no data.
func (t *teller) refers() bool {
	return slices.ContainsFunc(t.m.Auth, func(r api.RR) bool {
		return r.Type == api.NS && r.Class == api.IN
	})
}

// referral tells the servers of a zone nearer to the question's name, and the
// addresses of those that are named within it.
func (t *teller) referral() {
	if len(t.m.Answers) > 0 || t.m.Rcode == api.NXDomain {
		return
	}
	at := slices.IndexFunc(t.auth, func(r api.RR) bool {
		return r.Type == api.NS && !name.Equal(r.Name, t.zone) && name.Under(t.q.Name, r.Name)
	})
	if at < 0 {
		return
	}
	z := t.auth[at].Name
	for _, d := range t.set(t.auth, z, api.NS, api.RankAuth) {
		if name.Under(d.Host, z) {
			t.set(t.extra, d.Host, api.A, api.RankExtra)
			t.set(t.extra, d.Host, api.AAAA, api.RankExtra)
		}
	}
}

// answerRank is the rank of what Answers has.
func (t *teller) answerRank() int {
	if t.m.AA {
		return api.RankSure
	}
	return api.RankAnswer
}

// set tells the set of n and a type that list has, if it has one, and answers
// what was told.
func (t *teller) set(list []api.RR, n []string, kind, rank int) []api.Data {
	set, least := rr.Set(list, n, kind)
	if len(set) > api.MaxSet {
		set = set[:api.MaxSet]
	}
	t.has(n, kind, set, least, rank)
	return set
}

// has tells that n has the set of a type.
func (t *teller) has(n []string, kind int, set []api.Data, least, rank int) {
	t.add(n, api.Fact{Type: kind, Kind: api.Has, Rank: rank, TTL: ttl.Clamp(least, false), Set: set})
}

// add tells f of n, if it is sound then.
func (t *teller) add(n []string, f api.Fact) {
	// A copy: the name may be one that was handed in, or that another fact has.
	f.Name = slices.Clone(n)
	f.Got = t.now
	if Sound(f) {
		t.facts = append(t.facts, f)
	}
}
