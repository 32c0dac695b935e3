package fact_test

import (
	"reflect"
	"slices"
	"testing"

	"gazetteer/api"
	"gazetteer/fact"
)

// roomy answers what list has, in a list with spare room, in which x stands.
func roomy[T any](list []T, x T) []T {
	out := make([]T, 0, len(list)+3)
	out = append(out, list...)
	for i := range 3 {
		out[:cap(out)][len(out)+i] = x
	}
	return out
}

func roomyData(d api.Data) api.Data {
	return api.Data{
		Bytes: roomy(d.Bytes, 77), Host: roomy(d.Host, "room"), Mail: roomy(d.Mail, "room"),
		Nums: roomy(d.Nums, 77), Texts: roomy(d.Texts, "room"),
	}
}

func roomyList(list []api.RR) []api.RR {
	out := roomy(list, rec("room", 1, 77, address(77)))
	for i, r := range out {
		out[i].Name, out[i].Data = roomy(r.Name, "room"), roomyData(r.Data)
	}
	return out
}

func roomyQuestion(q api.Question) api.Question {
	q.Name = roomy(q.Name, "room")
	return q
}

func roomyMsg(m api.Msg) api.Msg {
	m.Questions = roomy(m.Questions, ask("room", 1))
	for i, q := range m.Questions {
		m.Questions[i] = roomyQuestion(q)
	}
	m.Answers, m.Auth, m.Extra = roomyList(m.Answers), roomyList(m.Auth), roomyList(m.Extra)
	return m
}

func roomyFact(f api.Fact) api.Fact {
	f.Name, f.Zone, f.Soa = roomy(f.Name, "room"), roomy(f.Zone, "room"), roomyData(f.Soa)
	f.Set = roomy(f.Set, address(77))
	for i, d := range f.Set {
		f.Set[i] = roomyData(d)
	}
	return f
}

// whole answers x in new memory, with all that its lists have room for within
// their lengths.
func whole(x reflect.Value) reflect.Value {
	out := reflect.New(x.Type()).Elem()
	switch x.Kind() {
	case reflect.Slice:
		x = x.Slice(0, x.Cap())
		out = reflect.MakeSlice(x.Type(), x.Len(), x.Len())
		for i := range x.Len() {
			out.Index(i).Set(whole(x.Index(i)))
		}
	case reflect.Struct:
		for i := range x.NumField() {
			out.Field(i).Set(whole(x.Field(i)))
		}
	default:
		out.Set(x)
	}
	return out
}

func picture(x any) any {
	return whole(reflect.ValueOf(x)).Interface()
}

// spoil writes over all that the lists of x have, and have room for.
func spoil(x reflect.Value) {
	switch x.Kind() {
	case reflect.Slice:
		x = x.Slice(0, x.Cap())
		for i := range x.Len() {
			spoil(x.Index(i))
		}
	case reflect.Struct:
		for i := range x.NumField() {
			spoil(x.Field(i))
		}
	case reflect.String:
		x.SetString("spoilt")
	case reflect.Int:
		x.SetInt(-77)
	case reflect.Uint8:
		x.SetUint(x.Uint() ^ 255)
	}
}

// spoilFact writes over the lists that f has.
func spoilFact(f api.Fact) {
	spoil(reflect.ValueOf(&f).Elem())
}

// told is a message that tells facts of many ways, each time in new memory.
func told() []api.Msg {
	chain := respond(ask("a", api.MX))
	chain.Answers = []api.RR{
		rec("a", api.CNAME, 60, host("b.a")), rec("b.a", api.CNAME, 60, host("c.a")), rec("b.a", api.CNAME, 60, host("d.a")),
		rec("c.a", api.MX, 60, api.Data{Nums: []int{1}, Host: name("x")}), rec("c.a", api.MX, 60, api.Data{Nums: []int{2}, Host: name("x")}),
	}
	nothing := respond(ask("x.b.a", api.A))
	nothing.Answers = []api.RR{rec("x.b.a", api.CNAME, 60, host("y.a"))}
	nothing.Auth = []api.RR{rec("a", api.SOA, 60, soa(50)), rec("a", api.SOA, 60, soa(40))}
	referral := respond(ask("x.b.a", api.A))
	referral.Auth = []api.RR{rec("b.a", api.NS, 60, host("ns.b.a")), rec("b.a", api.NS, 60, host("b.a"))}
	referral.Extra = []api.RR{
		rec("ns.b.a", api.A, 60, address(1)), rec("ns.b.a", api.A, 60, address(2)), rec("b.a", api.AAAA, 60, long(1)), rec("ns.b.a", api.AAAA, 60, long(2)),
	}
	all := respond(ask("a", api.ANY))
	all.Answers = []api.RR{rec("a", api.TXT, 60, api.Data{Texts: []string{"x", "y"}}), rec("a", api.SOA, 60, soa(3)), rec("a", api.NS, 60, host("a"))}
	large := respond(ask("a", api.A))
	for i := range 100 {
		large.Answers = append(large.Answers, rec("a", api.A, 60, address(i)))
	}
	return []api.Msg{chain, nothing, referral, all, large}
}

func TestFromLeavesWhatIsHandedIn(t *testing.T) {
	for i := range told() {
		m := roomyMsg(told()[i])
		q, zone := roomyQuestion(m.Questions[0]), roomy(nil, "room")
		wasM, wasQ, wasZone := picture(m), picture(q), picture(zone)
		facts := fact.From(q, m, zone, now)
		if len(facts) == 0 {
			t.Errorf("nothing is told by %+v", m)
		}
		for _, f := range facts {
			spoilFact(f)
		}
		if !reflect.DeepEqual(picture(m), wasM) || !reflect.DeepEqual(picture(q), wasQ) || !reflect.DeepEqual(picture(zone), wasZone) {
			t.Errorf("From of message %d changed what was handed in, or shares memory with it", i)
		}
	}
}

// No two lists of an answer share memory, nor do two answers.
func TestFromAnswersNewMemory(t *testing.T) {
	for i, m := range told() {
		want := fact.From(m.Questions[0], m, nil, now)
		for at := range want {
			got := fact.From(m.Questions[0], m, nil, now)
			spoilFact(got[at])
			for j, f := range got {
				if j != at && !exactly(f, want[j]) {
					t.Errorf("message %d: the facts %d and %d share memory", i, at, j)
				}
			}
		}
		for at, f := range want {
			alone(t, f)
			again := fact.From(m.Questions[0], m, nil, now)
			spoilFact(again[at])
			if !exactly(f, fact.From(m.Questions[0], m, nil, now)[at]) {
				t.Errorf("message %d: two answers share memory", i)
			}
		}
	}
}

// alone holds that no list of f shares memory with another one of f.
func alone(t *testing.T, f api.Fact) {
	t.Helper()
	lists := func(f *api.Fact) []*[]string {
		out := []*[]string{&f.Name, &f.Zone, &f.Soa.Host, &f.Soa.Mail, &f.Soa.Texts}
		for i := range f.Set {
			out = append(out, &f.Set[i].Host, &f.Set[i].Mail, &f.Set[i].Texts)
		}
		return out
	}
	for at := range lists(&f) {
		var was []string
		for i, l := range lists(&f) {
			if i != at {
				was = append(was, *l...)
			}
		}
		mine := *lists(&f)[at]
		kept := slices.Clone(mine[:cap(mine)])
		spoil(reflect.ValueOf(mine))
		var is []string
		for i, l := range lists(&f) {
			if i != at {
				is = append(is, *l...)
			}
		}
		if !slices.Equal(was, is) {
			t.Errorf("two lists of %+v share memory", f)
		}
		copy(mine[:cap(mine)], kept)
	}
}

func TestTheOthersLeaveWhatIsHandedIn(t *testing.T) {
	for _, x := range examples() {
		a, b := roomyFact(x), roomyFact(x)
		b.Name = roomy(name("WWW.A"), "room")
		slices.Reverse(b.Set)
		wasA, wasB := picture(a), picture(b)
		if !fact.Sound(a) || fact.Key(a) != fact.Key(b) || !fact.Same(a, b) || !fact.Beats(a, b, now) {
			t.Errorf("%+v and %+v are not alike", a, b)
		}
		if !reflect.DeepEqual(picture(a), wasA) || !reflect.DeepEqual(picture(b), wasB) {
			t.Errorf("what was handed in is changed: %+v, %+v", a, b)
		}
	}
}

// Nothing is kept from call to call.
func TestTheSameCallsHaveTheSameAnswers(t *testing.T) {
	var first [][]api.Fact
	for round := range 3 {
		for i, m := range told() {
			got := fact.From(m.Questions[0], m, nil, now)
			if round == 0 {
				first = append(first, got)
			} else if !slices.EqualFunc(got, first[i], exactly) {
				t.Errorf("message %d, once more, is%s", i, lines(got))
			}
		}
	}
}
