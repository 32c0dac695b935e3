package msg_test

import (
	"reflect"
	"slices"
	"strings"
	"testing"

	"gazetteer/api"
	"gazetteer/msg"
)

func TestEncode(t *testing.T) {
	for _, c := range samples() {
		if b, e := msg.Encode(c.m); e != api.OK || string(b) != c.want {
			t.Errorf("Encode(%s): %.300q, %d, not %.300q", tell(c.m), b, e, c.want)
		}
	}
}

// The chapter's example.
func TestEncodeOfAQuestionAlone(t *testing.T) {
	b, e := msg.Encode(api.Msg{ID: 7, RD: true, Questions: []api.Question{ask(api.AAAA, "www", "example")}})
	if e != api.OK || len(b) != 12+13+4 {
		t.Errorf("%q, %d", b, e)
	}
}

func TestEncodeOfUnsound(t *testing.T) {
	for _, m := range unsound() {
		if b, e := msg.Encode(m); e != api.ErrForm || len(b) != 0 {
			t.Errorf("Encode(%s): %.100q, %d", tell(m), b, e)
		}
	}
}

func TestEncodeOfTooLarge(t *testing.T) {
	for _, m := range tooLarge() {
		if b, e := msg.Encode(m); e != api.ErrLarge || len(b) != 0 {
			t.Errorf("Encode(%s): %.100q, %d", tell(m), b, e)
		}
		// Unsound comes ahead of too large.
		m.ID = -1
		if b, e := msg.Encode(m); e != api.ErrForm || len(b) != 0 {
			t.Errorf("Encode(%s): %.100q, %d", tell(m), b, e)
		}
	}
}

// As many bytes as may be hang on the pointers: with them it fits, without not.
func TestEncodeOfMostBytesWithPointers(t *testing.T) {
	labels := []string{strings.Repeat("x", 63), strings.Repeat("y", 63)}
	for _, c := range []struct {
		size int
		want api.Errno
	}{{0, api.OK}, {1, api.ErrLarge}} {
		// A question of 129 + 4 bytes, an answer of 2 + 10 and its data.
		m := api.Msg{Questions: []api.Question{ask(99, labels...)}, Answers: []api.RR{plain(api.MaxMsg - 12 - 133 - 12 + c.size)}}
		m.Answers[0].Name = labels
		b, e := msg.Encode(m)
		if e != c.want || e == api.OK && len(b) != api.MaxMsg {
			t.Errorf("%d more: %d bytes, %d", c.size, len(b), e)
		}
	}
}

// Names short: what was written ahead in any part is pointed to, byte by byte the
// same, and only as far as pointers lead.
func TestEncodeNamesShort(t *testing.T) {
	m := api.Msg{
		Questions: []api.Question{ask(api.A, "a", "b"), ask(api.A, "a", "b"), ask(api.A, "c", "B")},
		Auth:      []api.RR{address(1, "c", "B"), plain(16384)},
		Extra:     []api.RR{address(2, "z"), address(3, "z"), address(4, "a", "b")},
	}
	want := head(0, 0, 3, 0, 2, 3) +
		asked("\x01a\x01b\x00", 1, 1) + asked("\xc0\x0c", 1, 1) + asked("\x01c\x01B\x00", 1, 1) + // from 12, 21, 27
		addressTold("\xc0\x1b", 1) + plainTold(16384) +
		addressTold("\x01z\x00", 2) + addressTold("\x01z\x00", 3) + addressTold("\xc0\x0c", 4)
	if b, e := msg.Encode(m); e != api.OK || string(b) != want {
		t.Errorf("%d, %.100q", e, b)
	}
}

// The root's name is one byte, wherever it stands.
func TestEncodeEdnsBehindAll(t *testing.T) {
	m := api.Msg{Questions: []api.Question{ask(api.A)}, Extra: []api.RR{address(1), address(2)}, Edns: true, Size: 300}
	want := head(0, 0, 1, 0, 0, 3) + asked("\x00", 1, 1) + addressTold("\x00", 1) + addressTold("\x00", 2) + opt(300)
	if b, e := msg.Encode(m); e != api.OK || string(b) != want {
		t.Errorf("%d, %q", e, b)
	}
}

func roomyStrings(list []string) []string {
	return append(append([]string(nil), list...), "p", "q")[:len(list)]
}

func roomyRR(r api.RR) api.RR {
	r.Name = roomyStrings(r.Name)
	r.Data = api.Data{
		Bytes: append(append([]byte(nil), r.Data.Bytes...), 5, 5)[:len(r.Data.Bytes)],
		Host:  roomyStrings(r.Data.Host),
		Mail:  roomyStrings(r.Data.Mail),
		Nums:  append(append([]int(nil), r.Data.Nums...), 5, 5)[:len(r.Data.Nums)],
		Texts: roomyStrings(r.Data.Texts),
	}
	return r
}

func roomyRRs(list []api.RR) []api.RR {
	var out []api.RR
	for _, r := range list {
		out = append(out, roomyRR(r))
	}
	return append(out, address(77, "spare"), address(78, "spare"))[:len(list)]
}

// roomy answers m with lists that have two places more, or more, which are filled.
func roomy(m api.Msg) api.Msg {
	var questions []api.Question
	for _, q := range m.Questions {
		questions = append(questions, api.Question{Name: roomyStrings(q.Name), Type: q.Type, Class: q.Class})
	}
	m.Questions = append(questions, ask(77, "spare"), ask(78, "spare"))[:len(m.Questions)]
	m.Answers, m.Auth, m.Extra = roomyRRs(m.Answers), roomyRRs(m.Auth), roomyRRs(m.Extra)
	return m
}

func wholeRR(r api.RR) api.RR {
	d := r.Data
	return api.RR{Name: r.Name[:cap(r.Name)], Type: r.Type, Class: r.Class, TTL: r.TTL, Data: api.Data{
		Bytes: d.Bytes[:cap(d.Bytes)], Host: d.Host[:cap(d.Host)], Mail: d.Mail[:cap(d.Mail)],
		Nums: d.Nums[:cap(d.Nums)], Texts: d.Texts[:cap(d.Texts)],
	}}
}

func wholeRRs(list []api.RR) []api.RR {
	list = slices.Clone(list[:cap(list)])
	for i := range list {
		list[i] = wholeRR(list[i])
	}
	return list
}

// whole answers m with all its lists as long as their room.
func whole(m api.Msg) api.Msg {
	m.Questions = slices.Clone(m.Questions[:cap(m.Questions)])
	for i := range m.Questions {
		n := m.Questions[i].Name
		m.Questions[i].Name = n[:cap(n)]
	}
	m.Answers, m.Auth, m.Extra = wholeRRs(m.Answers), wholeRRs(m.Auth), wholeRRs(m.Extra)
	return m
}

func spoilStrings(list []string) {
	list = list[:cap(list)]
	for i := range list {
		list[i] = "spoilt"
	}
}

func spoilRRs(list []api.RR) {
	list = list[:cap(list)]
	for i := range list {
		d := wholeRR(list[i]).Data
		for _, texts := range [][]string{list[i].Name, d.Host, d.Mail, d.Texts} {
			spoilStrings(texts)
		}
		for j := range d.Bytes {
			d.Bytes[j] = 99
		}
		for j := range d.Nums {
			d.Nums[j] = 99
		}
		list[i] = api.RR{Type: 99, TTL: 99}
	}
}

// spoil writes over all that the lists of m have, their spare room too.
func spoil(m api.Msg) {
	questions := m.Questions[:cap(m.Questions)]
	for i := range questions {
		spoilStrings(questions[i].Name)
		questions[i] = ask(99, "spoilt")
	}
	spoilRRs(m.Answers)
	spoilRRs(m.Auth)
	spoilRRs(m.Extra)
}

// What is handed in has spare room, and is as it was behind every call.
func TestEncodeChangesNothingHandedIn(t *testing.T) {
	list := unsound()
	for _, c := range samples() {
		list = append(list, c.m)
	}
	for _, m := range append(list, tooLarge()...) {
		if len(m.Questions)+len(m.Answers)+len(m.Auth)+len(m.Extra) > 600 {
			continue
		}
		m, ahead := roomy(m), roomy(m)
		msg.Sound(m)
		one, _ := msg.Encode(m)
		two, _ := msg.Encode(m)
		if !reflect.DeepEqual(whole(m), whole(ahead)) {
			t.Errorf("%s was changed: %s", tell(ahead), tell(m))
		}
		want := string(two)
		for i := range one {
			one[i] = 99
		}
		spoil(m)
		if string(two) != want {
			t.Errorf("Encode(%s) shares its answer", tell(ahead))
		}
	}
}
