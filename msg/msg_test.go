package msg_test

import (
	"bytes"
	"fmt"
	"math"
	"slices"
	"strings"
	"testing"

	"gazetteer/api"
	"gazetteer/msg"
)

// written is a message, and its bytes.
type written struct {
	m    api.Msg
	want string
}

func label(size int) string {
	return strings.Repeat("a", size)
}

// number is n as size bytes.
func number(n, size int) string {
	var out []byte
	for i := size - 1; i >= 0; i-- {
		out = append(out, byte(n>>(8*i)))
	}
	return string(out)
}

// head is a message's first 12 bytes.
func head(id, flags int, counts ...int) string {
	out := number(id, 2) + number(flags, 2)
	for _, n := range counts {
		out += number(n, 2)
	}
	return out
}

// asked is a question's bytes.
func asked(n string, kind, class int) string {
	return n + number(kind, 2) + number(class, 2)
}

// told is a record's bytes.
func told(n string, kind, class, ttl int, data string) string {
	return n + number(kind, 2) + number(class, 2) + number(ttl, 4) + number(len(data), 2) + data
}

// opt is an OPT record's bytes.
func opt(size int) string {
	return told("\x00", api.OPT, size, 0, "")
}

func ask(kind int, labels ...string) api.Question {
	return api.Question{Name: labels, Type: kind, Class: api.IN}
}

// address is a record of type A, and addressTold its bytes behind its name.
func address(last byte, labels ...string) api.RR {
	return api.RR{Name: labels, Type: api.A, Class: api.IN, TTL: 5, Data: api.Data{Bytes: []byte{1, 2, 3, last}}}
}

func addressTold(n string, last byte) string {
	return told(n, api.A, api.IN, 5, "\x01\x02\x03"+string([]byte{last}))
}

// plain is a record whose data is size bytes: it has 11 more.
func plain(size int) api.RR {
	return api.RR{Type: 99, Class: api.IN, Data: api.Data{Bytes: bytes.Repeat([]byte{7}, size)}}
}

func plainTold(size int) string {
	return told("\x00", 99, api.IN, 0, strings.Repeat("\x07", size))
}

// referral is a message that has some of all parts.
func referral() written {
	m := api.Msg{
		ID: 0x0102, Response: true, Opcode: 2, AA: true, RD: true, RA: true, Rcode: api.NXDomain,
		Questions: []api.Question{ask(api.A, "www", "b"), ask(api.ANY, "b")},
		Answers: []api.RR{
			{Name: []string{"www", "b"}, Type: api.CNAME, Class: api.IN, TTL: 1, Data: api.Data{Host: []string{"x", "b"}}},
			address(4, "x", "b"),
		},
		Auth: []api.RR{
			{Name: []string{"b"}, Type: api.NS, Class: api.IN, TTL: 1<<31 - 1, Data: api.Data{Host: []string{"ns", "b"}}},
		},
		Extra: []api.RR{address(9, "ns", "b"), address(8, "NS", "b"), address(7)},
		Edns:  true, Size: 4096,
	}
	// www stands at 12, b at 16, x at 43 and ns at 76.
	want := head(0x0102, 0x9583, 2, 2, 1, 4) +
		asked("\x03www\x01b\x00", 1, 1) + asked("\xc0\x10", 255, 1) +
		told("\xc0\x0c", 5, 1, 1, "\x01x\xc0\x10") + addressTold("\xc0\x29", 4) +
		told("\xc0\x10", 2, 1, 1<<31-1, "\x02ns\xc0\x10") +
		addressTold("\xc0\x49", 9) + addressTold("\x02NS\xc0\x10", 8) + addressTold("\x00", 7) +
		opt(4096)
	return written{m, want}
}

// samples are messages of all parts, at their edges too.
func samples() []written {
	list := []written{
		referral(),
		{api.Msg{}, head(0, 0, 0, 0, 0, 0)},
		{api.Msg{Questions: []api.Question{ask(api.A, "a")}}, head(0, 0, 1, 0, 0, 0) + asked("\x01a\x00", 1, 1)},
		{api.Msg{Answers: []api.RR{address(4, "a")}}, head(0, 0, 0, 1, 0, 0) + addressTold("\x01a\x00", 4)},
		{api.Msg{Auth: []api.RR{address(4, "a")}}, head(0, 0, 0, 0, 1, 0) + addressTold("\x01a\x00", 4)},
		{api.Msg{Extra: []api.RR{address(4, "a")}}, head(0, 0, 0, 0, 0, 1) + addressTold("\x01a\x00", 4)},
		{api.Msg{Extra: []api.RR{address(4)}, Edns: true, Size: 1232}, head(0, 0, 0, 0, 0, 2) + addressTold("\x00", 4) + opt(1232)},
		{api.Msg{Response: true}, head(0, 0x8000, 0, 0, 0, 0)},
		{api.Msg{AA: true}, head(0, 0x0400, 0, 0, 0, 0)},
		{api.Msg{TC: true}, head(0, 0x0200, 0, 0, 0, 0)},
		{api.Msg{RD: true}, head(0, 0x0100, 0, 0, 0, 0)},
		{api.Msg{RA: true}, head(0, 0x0080, 0, 0, 0, 0)},
		{api.Msg{ID: 65535, Response: true, Opcode: 15, AA: true, TC: true, RD: true, RA: true, Rcode: 15}, head(65535, 0xff8f, 0, 0, 0, 0)},
	}
	for _, n := range []int{1, 2, 4, 8, 14, 15} {
		list = append(list, written{api.Msg{Opcode: n}, head(0, n*2048, 0, 0, 0, 0)})
		list = append(list, written{api.Msg{Rcode: n}, head(0, n, 0, 0, 0, 0)})
	}
	for _, n := range []int{0, 1, 255, 256, 258, 512, 4096, 32768, 65534, 65535} {
		list = append(list, written{api.Msg{ID: n}, head(n, 0, 0, 0, 0, 0)})
		list = append(list, written{api.Msg{Edns: true, Size: n}, head(0, 0, 0, 0, 0, 1) + opt(n)})
		q := api.Question{Type: 1, Class: n}
		list = append(list, written{api.Msg{Questions: []api.Question{q}}, head(0, 0, 1, 0, 0, 0) + asked("\x00", 1, n)})
		q = api.Question{Type: max(n, 1), Class: api.IN}
		list = append(list, written{api.Msg{Questions: []api.Question{q}}, head(0, 0, 1, 0, 0, 0) + asked("\x00", max(n, 1), 1)})
	}
	// A question may ask for OPT, of which there is no record.
	list = append(list, written{api.Msg{Questions: []api.Question{ask(api.OPT)}}, head(0, 0, 1, 0, 0, 0) + asked("\x00", 41, 1)})
	longest := []string{label(63), label(63), label(63), label(61)}
	long := "\x3f" + label(63) + "\x3f" + label(63) + "\x3f" + label(63) + "\x3d" + label(61) + "\x00"
	list = append(list, written{api.Msg{Questions: []api.Question{ask(api.A, longest...)}}, head(0, 0, 1, 0, 0, 0) + asked(long, 1, 1)})
	return append(list, large()...)
}

// large are messages that have as much as may be.
func large() []written {
	most := api.MaxMsg - 12 - 11
	root, all := ask(api.A), func(n int, x string) string { return strings.Repeat(x, n) }
	list := []written{
		{api.Msg{Auth: []api.RR{plain(most)}}, head(0, 0, 0, 0, 1, 0) + plainTold(most)},
		{api.Msg{Answers: []api.RR{plain(most - 11)}, Edns: true}, head(0, 0, 0, 1, 0, 1) + plainTold(most-11) + opt(0)},
		{api.Msg{Questions: slices.Repeat([]api.Question{root}, 512)}, head(0, 0, 512, 0, 0, 0) + all(512, asked("\x00", 1, 1))},
		{api.Msg{Answers: slices.Repeat([]api.RR{plain(1)}, 512)}, head(0, 0, 0, 512, 0, 0) + all(512, plainTold(1))},
		{api.Msg{Auth: slices.Repeat([]api.RR{plain(1)}, 512)}, head(0, 0, 0, 0, 512, 0) + all(512, plainTold(1))},
		{api.Msg{Extra: slices.Repeat([]api.RR{plain(1)}, 512), Edns: true, Size: 1}, head(0, 0, 0, 0, 0, 513) + all(512, plainTold(1)) + opt(1)},
	}
	m := api.Msg{
		Questions: slices.Repeat([]api.Question{root}, 128), Answers: slices.Repeat([]api.RR{plain(1)}, 128),
		Auth: slices.Repeat([]api.RR{plain(2)}, 128), Extra: slices.Repeat([]api.RR{plain(3)}, 128), Edns: true, Size: 65535,
	}
	want := head(0, 0, 128, 128, 128, 129) + all(128, asked("\x00", 1, 1)) +
		all(128, plainTold(1)) + all(128, plainTold(2)) + all(128, plainTold(3)) + opt(65535)
	return append(list, written{m, want})
}

// tooLarge are sound messages of more bytes than one may have.
func tooLarge() []api.Msg {
	most := api.MaxMsg - 12 - 11
	return []api.Msg{
		{Answers: []api.RR{plain(most + 1)}},
		{Auth: []api.RR{plain(most + 1)}},
		{Extra: []api.RR{plain(most + 1)}},
		{Extra: []api.RR{plain(65535)}},
		{Extra: []api.RR{plain(most - 10)}, Edns: true},
		{Extra: []api.RR{plain(most)}, Edns: true},
		{Questions: []api.Question{ask(api.A)}, Auth: []api.RR{plain(most - 4)}},
		{Answers: []api.RR{plain(65535), plain(65535)}, Auth: []api.RR{plain(65535)}, Extra: []api.RR{plain(65535)}},
		{Answers: slices.Repeat([]api.RR{plain(117)}, 512)},
	}
}

// unsound are messages of which one thing is not as it may be.
func unsound() []api.Msg {
	var list []api.Msg
	question := func(q api.Question) {
		list = append(list, api.Msg{Questions: []api.Question{q}}, api.Msg{Questions: []api.Question{ask(api.A), q, ask(api.A)}})
	}
	for _, n := range []int{-1, -2, -65535, 65536, 65537, 1 << 32, 1<<32 + 1, math.MaxInt, math.MinInt, math.MinInt + 1} {
		list = append(list, api.Msg{ID: n}, api.Msg{Edns: true, Size: n}, api.Msg{Size: n}, api.Msg{Opcode: n}, api.Msg{Rcode: n})
		question(api.Question{Type: n, Class: api.IN})
		question(api.Question{Type: api.A, Class: n})
	}
	for _, n := range []int{16, 17, 31, 32, -15, -16, 255, 256} {
		list = append(list, api.Msg{Opcode: n}, api.Msg{Rcode: n})
	}
	for _, n := range []int{1, 512, 65535} {
		list = append(list, api.Msg{Size: n}, api.Msg{Size: n, Extra: []api.RR{address(4)}})
	}
	question(api.Question{Class: api.IN})
	question(api.Question{Name: []string{"a"}})
	bad := []api.RR{
		{}, {Type: api.OPT}, {Type: api.OPT, Class: 512}, {Name: []string{"a"}, Type: api.OPT, Class: 1}, {Type: api.OPT, Data: api.Data{Bytes: []byte{1}}},
		{Type: api.A, Class: api.IN}, {Class: api.IN}, {Type: 99, Class: 65536}, {Type: 99, Class: -1}, {Type: 99, TTL: -1}, {Type: 99, TTL: 1 << 31},
		{Type: 65536}, {Type: -1}, {Type: api.TXT}, {Type: api.NS, Data: api.Data{Host: []string{""}}}, plain(65536),
	}
	for _, n := range [][]string{{""}, {"a", ""}, {label(64)}, {label(63), label(63), label(63), label(62)}, slices.Repeat([]string{"a"}, 128)} {
		question(ask(api.A, n...))
		bad = append(bad, address(4, n...))
	}
	good := address(4, "a")
	for _, r := range bad {
		for _, records := range [][]api.RR{{r}, {good, r}, {r, good}, {good, r, good}} {
			list = append(list, api.Msg{Answers: records}, api.Msg{Auth: records}, api.Msg{Extra: records}, api.Msg{Extra: records, Edns: true})
		}
	}
	return append(list, tooMany()...)
}

// tooMany are messages with one record, or more, too many.
func tooMany() []api.Msg {
	root, one := ask(api.A), plain(0)
	return []api.Msg{
		{Questions: slices.Repeat([]api.Question{root}, 513)},
		{Answers: slices.Repeat([]api.RR{one}, 513)},
		{Auth: slices.Repeat([]api.RR{one}, 513)},
		{Extra: slices.Repeat([]api.RR{one}, 513)},
		{Extra: slices.Repeat([]api.RR{one}, 513), Edns: true},
		{Extra: slices.Repeat([]api.RR{one}, 70000)},
		{Questions: slices.Repeat([]api.Question{root}, 65536)},
		{Questions: slices.Repeat([]api.Question{root}, 512), Answers: []api.RR{one}},
		{Questions: slices.Repeat([]api.Question{root}, 512), Auth: []api.RR{one}},
		{Questions: slices.Repeat([]api.Question{root}, 512), Extra: []api.RR{one}},
		{
			Questions: slices.Repeat([]api.Question{root}, 128), Answers: slices.Repeat([]api.RR{one}, 128),
			Auth: slices.Repeat([]api.RR{one}, 128), Extra: slices.Repeat([]api.RR{one}, 129),
		},
	}
}

// alike holds data byte by byte; nil and empty lists are the same.
func alike(a, b api.Data) bool {
	return bytes.Equal(a.Bytes, b.Bytes) && slices.Equal(a.Host, b.Host) && slices.Equal(a.Mail, b.Mail) &&
		slices.Equal(a.Nums, b.Nums) && slices.Equal(a.Texts, b.Texts)
}

func alikeRR(a, b api.RR) bool {
	return slices.Equal(a.Name, b.Name) && a.Type == b.Type && a.Class == b.Class && a.TTL == b.TTL && alike(a.Data, b.Data)
}

func alikeQuestion(a, b api.Question) bool {
	return slices.Equal(a.Name, b.Name) && a.Type == b.Type && a.Class == b.Class
}

func alikeMsg(a, b api.Msg) bool {
	return a.ID == b.ID && a.Response == b.Response && a.Opcode == b.Opcode && a.AA == b.AA && a.TC == b.TC &&
		a.RD == b.RD && a.RA == b.RA && a.Rcode == b.Rcode && a.Edns == b.Edns && a.Size == b.Size &&
		slices.EqualFunc(a.Questions, b.Questions, alikeQuestion) && slices.EqualFunc(a.Answers, b.Answers, alikeRR) &&
		slices.EqualFunc(a.Auth, b.Auth, alikeRR) && slices.EqualFunc(a.Extra, b.Extra, alikeRR)
}

// tell is any value as text, cut where it is long.
func tell(x any) string {
	s := fmt.Sprintf("%+v", x)
	return s[:min(len(s), 300)]
}

func TestSound(t *testing.T) {
	for _, c := range samples() {
		if !msg.Sound(c.m) {
			t.Errorf("Sound(%s) is false", tell(c.m))
		}
	}
	// Too large is not unsound.
	for _, m := range tooLarge() {
		if !msg.Sound(m) {
			t.Errorf("Sound(%s) is false", tell(m))
		}
	}
	for _, m := range unsound() {
		if msg.Sound(m) {
			t.Errorf("Sound(%s) is true", tell(m))
		}
	}
}

// What may not be may not be beside anything else, either.
func TestSoundOfEachSample(t *testing.T) {
	for _, c := range samples() {
		for i, change := range []func(m *api.Msg){
			func(m *api.Msg) { m.ID += 65536 },
			func(m *api.Msg) { m.ID = -1 },
			func(m *api.Msg) { m.Opcode += 16 },
			func(m *api.Msg) { m.Opcode = -1 },
			func(m *api.Msg) { m.Rcode += 16 },
			func(m *api.Msg) { m.Rcode = -1 },
			func(m *api.Msg) { m.Size += 65536 },
			func(m *api.Msg) { m.Size = -1 },
			func(m *api.Msg) { m.Edns, m.Size = false, 1 },
			func(m *api.Msg) { m.Questions = append(slices.Clip(m.Questions), ask(0, "a")) },
			func(m *api.Msg) { m.Questions = append(slices.Clip(m.Questions), ask(api.A, "")) },
			func(m *api.Msg) { m.Answers = append(slices.Clip(m.Answers), api.RR{Type: api.OPT}) },
			func(m *api.Msg) { m.Auth = append(slices.Clip(m.Auth), api.RR{Type: api.A}) },
			func(m *api.Msg) { m.Extra = append(slices.Clip(m.Extra), api.RR{Type: api.OPT}) },
			func(m *api.Msg) { m.Extra = append(slices.Repeat([]api.RR{plain(0)}, 512), m.Extra...) },
		} {
			m := c.m
			change(&m)
			// Where nothing else is in it, 512 more may be.
			if all := len(m.Questions) + len(m.Answers) + len(m.Auth) + len(m.Extra); i == 14 && all == 512 {
				continue
			}
			if msg.Sound(m) {
				t.Errorf("change %d: Sound(%s) is true", i, tell(m))
			}
		}
	}
}
