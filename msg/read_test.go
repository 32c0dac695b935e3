package msg_test

import (
	"bytes"
	"math/rand"
	"slices"
	"strings"
	"testing"

	"gazetteer/api"
	"gazetteer/msg"
	"gazetteer/rr"
	"gazetteer/wname"
)

// refused checks that Decode answers an error and nothing beside it.
func refused(t *testing.T, b string, want api.Errno) {
	t.Helper()
	if m, e := msg.Decode([]byte(b)); e != want || !alikeMsg(m, api.Msg{}) {
		t.Errorf("Decode(%.300q): %s, %d, not %d", b, tell(m), e, want)
	}
}

// decoded checks that Decode answers want.
func decoded(t *testing.T, b string, want api.Msg) {
	t.Helper()
	if m, e := msg.Decode([]byte(b)); e != api.OK || !alikeMsg(m, want) {
		t.Errorf("Decode(%.300q): %s, %d, not %s", b, tell(m), e, tell(want))
	}
}

func TestDecode(t *testing.T) {
	for _, c := range samples() {
		decoded(t, c.want, c.m)
	}
}

// Each number of 16 bits as flags: 13 of them say something, 3 are of no matter.
func TestDecodeOfAllFlags(t *testing.T) {
	for n := range 65536 {
		bit := func(at int) bool { return n>>at&1 == 1 }
		m := api.Msg{
			ID: 9, Response: bit(15), Opcode: n / 2048 % 16, AA: bit(10), TC: bit(9), RD: bit(8), RA: bit(7), Rcode: n % 16,
		}
		decoded(t, head(9, n, 0, 0, 0, 0), m)
		want := head(9, n&^0x70, 0, 0, 0, 0)
		if b, e := msg.Encode(m); e != api.OK || string(b) != want {
			t.Fatalf("Encode(%s): %q, %d", tell(m), b, e)
		}
	}
}

// Wherever a message is cut it is short; spare room behind b is not b.
func TestDecodeOfLessBytes(t *testing.T) {
	for _, c := range samples() {
		room := []byte(c.want)
		for size := range len(room) {
			if len(room) > 600 && size > 100 && size < len(room)-20 {
				continue
			}
			if m, e := msg.Decode(room[:size]); e != api.ErrShort || !alikeMsg(m, api.Msg{}) {
				t.Errorf("Decode(%.300q): %s, %d", room[:size], tell(m), e)
			}
		}
	}
	refused(t, "", api.ErrShort)
	if _, e := msg.Decode(nil); e != api.ErrShort {
		t.Errorf("Decode(nil): %d", e)
	}
}

// In the first 12 bytes nothing else counts.
func TestDecodeOfLessThanAHead(t *testing.T) {
	for size := range 12 {
		refused(t, strings.Repeat("\xff", size), api.ErrShort)
		refused(t, strings.Repeat("\x00", size), api.ErrShort)
	}
	refused(t, strings.Repeat("\xff", 12), api.ErrLarge)
}

func TestDecodeOfMoreBytes(t *testing.T) {
	for _, c := range samples() {
		for _, more := range []string{"\x00", "\x01", "\xff\xff\xff", opt(512), strings.Repeat("\x00", 300)} {
			if len(c.want)+len(more) <= api.MaxMsg {
				refused(t, c.want+more, api.ErrExtra)
			}
		}
	}
	refused(t, strings.Repeat("\x00", api.MaxMsg), api.ErrExtra)
}

// More than MaxMsg bytes are too large, whatever they say.
func TestDecodeOfTooManyBytes(t *testing.T) {
	most := api.MaxMsg - 12 - 11
	refused(t, head(0, 0, 0, 1, 0, 0)+plainTold(most+1), api.ErrLarge)
	refused(t, head(0, 0, 1, 0, 0, 0)+asked("\x00", 1, 1)+strings.Repeat("\x00", api.MaxMsg), api.ErrLarge)
	refused(t, strings.Repeat("\x00", api.MaxMsg+1), api.ErrLarge)
	refused(t, strings.Repeat("\xff", api.MaxMsg+1), api.ErrLarge)
	refused(t, head(0, 0, 1, 0, 0, 0)+"\x40"+strings.Repeat("\x00", api.MaxMsg), api.ErrLarge)
}

// As many as MaxRecords and one more are read, be there an OPT record or not.
func TestDecodeOfMostRecords(t *testing.T) {
	m := api.Msg{Questions: slices.Repeat([]api.Question{ask(api.A)}, 513)}
	decoded(t, head(0, 0, 513, 0, 0, 0)+strings.Repeat(asked("\x00", 1, 1), 513), m)
	list := slices.Repeat([]api.RR{plain(1)}, 513)
	all := strings.Repeat(plainTold(1), 513)
	decoded(t, head(0, 0, 0, 513, 0, 0)+all, api.Msg{Answers: list})
	decoded(t, head(0, 0, 0, 0, 513, 0)+all, api.Msg{Auth: list})
	decoded(t, head(0, 0, 0, 0, 0, 513)+all, api.Msg{Extra: list})
	decoded(t, head(0, 0, 0, 500, 6, 7)+all, api.Msg{Answers: list[:500], Auth: list[:6], Extra: list[:7]})
}

// Numbers that are too many are so ahead of all that stands behind them.
func TestDecodeOfTooManyRecords(t *testing.T) {
	for _, counts := range [][]int{
		{514, 0, 0, 0}, {0, 514, 0, 0}, {0, 0, 514, 0}, {0, 0, 0, 514}, {65535, 0, 0, 0}, {0, 65535, 0, 0}, {0, 0, 65535, 0}, {0, 0, 0, 65535},
		{512, 0, 0, 2}, {1, 513, 0, 0}, {1, 0, 513, 0}, {129, 129, 128, 128}, {256, 0, 258, 0}, {32768, 32768, 0, 0}, {16384, 16384, 16384, 16384},
		{65535, 65535, 65535, 65535}, {65535, 1, 0, 0}, {0, 0, 65535, 1},
	} {
		for _, behind := range []string{"", "\x40", strings.Repeat("\x00", 600), strings.Repeat(asked("\x00", 1, 1), 514)} {
			refused(t, head(0, 0, counts...)+behind, api.ErrLarge)
		}
	}
	refused(t, head(0, 0, 0, 514, 0, 0)+strings.Repeat(plainTold(1), 514), api.ErrLarge)
	refused(t, head(0, 0, 0, 0, 0, 514)+strings.Repeat(plainTold(1), 513)+opt(0), api.ErrLarge)
	for _, counts := range [][]int{{513, 0, 0, 0}, {0, 256, 256, 1}, {0, 0, 0, 513}} {
		refused(t, head(0, 0, counts...), api.ErrShort)
	}
}

// A question's own error comes ahead of ErrForm of Type 0.
func TestDecodeOfQuestionsThatAreNone(t *testing.T) {
	good := asked("\x01a\x00", 1, 1)
	for _, c := range []struct {
		b    string
		want api.Errno
	}{
		{asked("\x00", 0, 1), api.ErrForm},
		{asked("\x01a\x00", 0, 0), api.ErrForm},
		{asked("\xc0\x02", 0, 1), api.ErrForm}, // the pointer leads to a 0 of the head
		{"\x00\x00\x00\x00", api.ErrShort},
		{"\x00\x00\x00", api.ErrShort},
		{"\x00", api.ErrShort},
		{"", api.ErrShort},
		{"\x01a", api.ErrShort},
		{asked("\x40", 0, 1), api.ErrName},
		{asked("\x40", 1, 1), api.ErrName},
		{strings.Repeat("\x01a", 128) + "\x00", api.ErrName},
		{asked("\xff\xff", 0, 1), api.ErrLoop},
	} {
		refused(t, head(0, 0, 1, 0, 0, 0)+c.b, c.want)
		refused(t, head(0, 0, 2, 0, 0, 0)+good+c.b, c.want)
		refused(t, head(0, 0, 1, 1, 1, 1)+c.b, c.want)
		if c.want != api.ErrShort {
			// The first one that is none says it, not what stands behind.
			refused(t, head(0, 0, 2, 0, 0, 0)+c.b+asked("\x80", 1, 1), c.want)
			refused(t, head(0, 0, 2, 0, 0, 0)+c.b+asked("\x00", 0, 1), c.want)
			refused(t, head(0, 0, 1, 1, 0, 0)+c.b+told("\x80", 1, 1, 1, ""), c.want)
			refused(t, head(0, 0, 1, 0, 0, 0)+c.b+"\x00", c.want)
			refused(t, head(0, 0, 2, 0, 0, 0)+c.b, c.want)
		}
	}
	decoded(t, head(0, 0, 1, 0, 0, 0)+asked("\x00", 256, 0), api.Msg{Questions: []api.Question{{Type: 256}}})
}

// A record's own error comes ahead of all that the message says of it.
func TestDecodeOfRecordsThatAreNone(t *testing.T) {
	good := addressTold("\x01a\x00", 4)
	for _, c := range []struct {
		b    string
		want api.Errno
	}{
		{told("\x00", 0, 1, 1, ""), api.ErrForm},
		{told("\x00", api.TXT, 1, 1, ""), api.ErrForm},
		{told("\x00", api.A, 1, 1, "\x01\x02\x03\x04\x05"), api.ErrExtra},
		{told("\x00", api.A, 1, 1, "\x01\x02\x03"), api.ErrShort},
		{told("\x00", api.NS, 1, 1, "\x40"), api.ErrName},
		{told("\x00", api.TXT, 1, 1, strings.Repeat("\x00", 65)), api.ErrLarge},
		{told("\x40", api.A, 1, 1, "\x01\x02\x03\x04"), api.ErrName},
		{told("\xff\xff", api.A, 1, 1, "\x01\x02\x03\x04"), api.ErrLoop},
	} {
		for _, counts := range [][]int{{0, 1, 0, 0}, {0, 0, 1, 0}, {0, 0, 0, 1}} {
			refused(t, head(0, 0, counts...)+c.b, c.want)
			refused(t, head(0, 0, counts...)+c.b+"\x00", c.want)
		}
		for _, counts := range [][]int{{0, 2, 0, 0}, {0, 1, 1, 0}, {0, 0, 2, 0}, {0, 1, 0, 1}, {0, 0, 1, 1}, {0, 0, 0, 2}} {
			refused(t, head(0, 0, counts...)+good+c.b, c.want)
			refused(t, head(0, 0, counts...)+c.b+told("\x80", 1, 1, 1, ""), c.want)
			refused(t, head(0, 0, counts...)+c.b+told("\x00", 0, 1, 1, ""), c.want)
		}
		refused(t, head(0, 0, 0, 0, 0, 3)+c.b+opt(1)+opt(1), c.want)
		refused(t, head(0, 0, 0, 0, 0, 3)+opt(1)+c.b+opt(1), c.want)
		refused(t, head(0, 0, 0, 0, 0, 3)+opt(1)+opt(1)+c.b, api.ErrForm)
		refused(t, head(0, 0, 0, 1, 0, 1)+opt(1)+c.b, api.ErrForm)
	}
}

// An OPT record stands in Extra alone, once, and without a name.
func TestDecodeOfOptRefused(t *testing.T) {
	good, named := addressTold("\x01a\x00", 4), told("\x01a\x00", api.OPT, 512, 0, "")
	for _, c := range []struct {
		counts []int
		b      string
	}{
		{[]int{0, 1, 0, 0}, opt(512)},
		{[]int{0, 0, 1, 0}, opt(512)},
		{[]int{0, 1, 0, 1}, opt(512) + good},
		{[]int{0, 1, 1, 0}, good + opt(512)},
		{[]int{0, 1, 0, 1}, opt(512) + opt(512)},
		{[]int{0, 2, 0, 0}, good + opt(512)},
		{[]int{0, 1, 0, 0}, named},
		{[]int{0, 0, 0, 1}, named},
		{[]int{0, 0, 0, 2}, good + named},
		{[]int{0, 0, 0, 2}, good + told("\xc0\x0c", api.OPT, 512, 0, "")},
		{[]int{0, 0, 0, 2}, opt(512) + named},
		{[]int{0, 0, 0, 2}, named + opt(512)},
		{[]int{0, 0, 0, 2}, opt(512) + opt(512)},
		{[]int{0, 0, 0, 2}, opt(0) + opt(0)},
		{[]int{0, 0, 0, 2}, opt(512) + opt(1232)},
		{[]int{0, 0, 0, 3}, opt(512) + good + opt(512)},
		{[]int{0, 0, 0, 3}, good + opt(512) + opt(512)},
	} {
		refused(t, head(0, 0, c.counts...)+c.b, api.ErrForm)
		refused(t, head(0, 0, c.counts...)+c.b+"\x00", api.ErrForm)
	}
	// Its own errors come ahead.
	for _, counts := range [][]int{{0, 1, 0, 0}, {0, 0, 1, 0}, {0, 0, 0, 1}} {
		whole := told("\x00", api.OPT, 512, 0, "data")
		for size := range len(whole) {
			refused(t, head(0, 0, counts...)+whole[:size], api.ErrShort)
		}
		refused(t, head(0, 0, counts...)+told("\x40", api.OPT, 512, 0, ""), api.ErrName)
		refused(t, head(0, 0, counts...)+told("\xff\xff", api.OPT, 512, 0, ""), api.ErrLoop)
	}
}

// An OPT record may stand anywhere in Extra, and say what it will.
func TestDecodeOfOpt(t *testing.T) {
	one, two := addressTold("\x01a\x00", 4), addressTold("\x01b\x00", 5)
	list := []api.RR{address(4, "a"), address(5, "b")}
	for _, size := range []int{0, 1, 512, 65535} {
		for _, ttl := range []int{0, 1, 1<<31 - 1, 1 << 31, 1<<32 - 1} {
			for _, data := range []string{"", "\x00\x0a\x00\x08abcdefgh", "\x40", strings.Repeat("\xff", 300)} {
				for _, n := range []string{"\x00", "\xc0\x02"} { // the pointer leads to a 0 of the head
					x := told(n, api.OPT, size, ttl, data)
					want := api.Msg{Extra: list, Edns: true, Size: size}
					decoded(t, head(0, 0, 0, 0, 0, 3)+x+one+two, want)
					decoded(t, head(0, 0, 0, 0, 0, 3)+one+x+two, want)
					decoded(t, head(0, 0, 0, 0, 0, 3)+one+two+x, want)
					decoded(t, head(0, 0, 0, 0, 0, 1)+x, api.Msg{Edns: true, Size: size})
				}
			}
		}
	}
}

// The highest bit of a TTL is none of it; numbers of classes are any.
func TestDecodeOfRecords(t *testing.T) {
	want := api.Msg{
		Answers: []api.RR{{Name: []string{"a"}, Type: 99, Class: 0, TTL: 0, Data: api.Data{Bytes: []byte("x")}}},
		Auth:    []api.RR{{Name: []string{"b", "a"}, Type: api.NS, Class: 65535, TTL: 1<<31 - 1, Data: api.Data{Host: []string{"b", "a"}}}},
		Extra:   []api.RR{{Type: api.ANY, Class: 3, TTL: 7}},
	}
	b := head(0, 0, 0, 1, 1, 1) + told("\x01a\x00", 99, 0, 1<<31, "x") + told("\x01b\xc0\x0c", 2, 65535, 1<<31-1, "\xc0\x1a") + told("\x00", 255, 3, 7, "")
	decoded(t, b, want)
}

func TestDecodeAnswersNewMemory(t *testing.T) {
	for _, c := range samples() {
		b := append([]byte(c.want), 9, 9, 9)
		one, e := msg.Decode(b[:len(c.want)])
		two, _ := msg.Decode(b[:len(c.want)])
		if e != api.OK || string(b) != c.want+"\x09\x09\x09" {
			t.Errorf("Decode: %d, b is %.100q", e, b)
		}
		spoil(one)
		if string(b) != c.want+"\x09\x09\x09" || !alikeMsg(two, c.m) {
			t.Errorf("Decode shares its answer: %s", tell(two))
		}
		for i := range b {
			b[i] = 77
		}
		if !alikeMsg(two, c.m) {
			t.Errorf("Decode keeps what it was handed: %s", tell(two))
		}
	}
}

// No two lists of one answer share memory: each record's is spoilt in its turn.
func TestDecodeSharesNothingWithinAnAnswer(t *testing.T) {
	c := referral()
	m, _ := msg.Decode([]byte(c.want))
	spoilRRs(m.Answers)
	if !slices.EqualFunc(m.Auth, c.m.Auth, alikeRR) || !slices.EqualFunc(m.Extra, c.m.Extra, alikeRR) || !slices.EqualFunc(m.Questions, c.m.Questions, alikeQuestion) {
		t.Errorf("Answers share: %s", tell(m))
	}
	spoilRRs(m.Extra[:1:1])
	if !slices.EqualFunc(m.Extra[1:], c.m.Extra[1:], alikeRR) {
		t.Errorf("Extra's first one shares: %s", tell(m))
	}
	spoilStrings(m.Questions[0].Name)
	if !alikeQuestion(m.Questions[1], c.m.Questions[1]) {
		t.Errorf("Questions share: %s", tell(m))
	}
}

// modelRecords reads count records as the document tells it.
func modelRecords(m *api.Msg, b []byte, at, count int, extra bool) (list []api.RR, next int, e api.Errno) {
	for range count {
		r, behind, e := rr.Get(b, at)
		if e != api.OK {
			return nil, 0, e
		}
		if r.Type == 41 && (!extra || m.Edns || len(r.Name) != 0) {
			return nil, 0, api.ErrForm
		}
		if r.Type == 41 {
			m.Edns, m.Size = true, r.Class
		} else {
			list = append(list, r)
		}
		at = behind
	}
	return list, at, api.OK
}

// modelDecode reads a message as the document tells it.
func modelDecode(b []byte) (api.Msg, api.Errno) {
	if len(b) > 65535 {
		return api.Msg{}, api.ErrLarge
	}
	if len(b) < 12 {
		return api.Msg{}, api.ErrShort
	}
	two := func(at int) int { return int(b[at])*256 + int(b[at+1]) }
	if two(4)+two(6)+two(8)+two(10) > 513 {
		return api.Msg{}, api.ErrLarge
	}
	m := api.Msg{
		ID: two(0), Response: b[2] >= 128, Opcode: int(b[2]) / 8 % 16, AA: b[2]/4%2 == 1, TC: b[2]/2%2 == 1, RD: b[2]%2 == 1,
		RA: b[3] >= 128, Rcode: int(b[3]) % 16,
	}
	at := 12
	for range two(4) {
		n, behind, e := wname.Get(b, at)
		if e != api.OK {
			return api.Msg{}, e
		}
		if len(b) < behind+4 {
			return api.Msg{}, api.ErrShort
		}
		if two(behind) == 0 {
			return api.Msg{}, api.ErrForm
		}
		m.Questions = append(m.Questions, api.Question{Name: n, Type: two(behind), Class: two(behind + 2)})
		at = behind + 4
	}
	var e api.Errno
	if m.Answers, at, e = modelRecords(&m, b, at, two(6), false); e != api.OK {
		return api.Msg{}, e
	}
	if m.Auth, at, e = modelRecords(&m, b, at, two(8), false); e != api.OK {
		return api.Msg{}, e
	}
	if m.Extra, at, e = modelRecords(&m, b, at, two(10), true); e != api.OK {
		return api.Msg{}, e
	}
	if at != len(b) {
		return api.Msg{}, api.ErrExtra
	}
	return m, api.OK
}

// agree holds Decode against the model, and what is read against itself, when it
// is written and read once more.
func agree(t *testing.T, b []byte) api.Errno {
	t.Helper()
	m, e := msg.Decode(b)
	want, wantE := modelDecode(b)
	if e != wantE || !alikeMsg(m, want) {
		t.Fatalf("Decode(%q): %s, %d, not %s, %d", b, tell(m), e, tell(want), wantE)
	}
	if e != api.OK {
		return e
	}
	once, e := msg.Encode(m)
	if e != api.OK || !msg.Sound(m) {
		t.Fatalf("Encode of Decode(%q), %s: %d", b, tell(m), e)
	}
	if two, e := msg.Decode(once); e != api.OK || !alikeMsg(two, m) {
		t.Fatalf("Decode of Encode of Decode(%q): %s, %d", b, tell(two), e)
	}
	return api.OK
}

// drawnRecord is a sound record of few names, so that many are pointed to.
func drawnRecord(draw *rand.Rand, names [][]string) api.RR {
	one := func() []string { return names[draw.Intn(len(names))] }
	r := api.RR{Name: one(), Class: draw.Intn(3), TTL: draw.Intn(1 << 31)}
	switch draw.Intn(6) {
	case 0:
		r.Type, r.Data = api.A, api.Data{Bytes: []byte{1, 2, 3, byte(draw.Intn(256))}}
	case 1:
		r.Type, r.Data = api.NS, api.Data{Host: one()}
	case 2:
		r.Type, r.Data = api.MX, api.Data{Nums: []int{draw.Intn(65536)}, Host: one()}
	case 3:
		r.Type, r.Data = api.SOA, api.Data{Host: one(), Mail: one(), Nums: []int{1, 2, 3, 4, draw.Intn(1 << 32)}}
	case 4:
		r.Type, r.Data = api.TXT, api.Data{Texts: []string{"t", strings.Repeat("u", draw.Intn(256))}}
	default:
		r.Type, r.Data = 99, api.Data{Bytes: make([]byte, draw.Intn(40))}
	}
	return r
}

// drawnMsg is a sound message.
func drawnMsg(draw *rand.Rand, most int) api.Msg {
	names := [][]string{nil, {"a"}, {"b", "a"}, {"A"}, {"c", "b", "a"}, {"d", "A"}, {strings.Repeat("e", 63), "a"}, {"\x00", "\xc0\x0c"}}
	on := func() bool { return draw.Intn(2) == 0 }
	m := api.Msg{
		ID: draw.Intn(65536), Response: on(), Opcode: draw.Intn(16), AA: on(), TC: on(), RD: on(), RA: on(), Rcode: draw.Intn(16), Edns: on(),
	}
	if m.Edns {
		m.Size = draw.Intn(65536)
	}
	for range draw.Intn(most) {
		m.Questions = append(m.Questions, api.Question{Name: names[draw.Intn(len(names))], Type: 1 + draw.Intn(65535), Class: draw.Intn(65536)})
	}
	for _, s := range []*[]api.RR{&m.Answers, &m.Auth, &m.Extra} {
		for range draw.Intn(most) {
			*s = append(*s, drawnRecord(draw, names))
		}
	}
	return m
}

// A sound message is read as it was written, and its bytes, some of them changed,
// cut or with more, are held against the model.
func TestDecodeOfEncode(t *testing.T) {
	for seed := range 60 {
		draw := rand.New(rand.NewSource(int64(seed)))
		most := []int{3, 6, 128}[draw.Intn(3)]
		m := drawnMsg(draw, most)
		b, e := msg.Encode(m)
		if e != api.OK {
			t.Fatalf("seed %d: Encode: %d", seed, e)
		}
		if two, e := msg.Decode(b); e != api.OK || !alikeMsg(two, m) {
			t.Fatalf("seed %d: Decode of Encode of %s: %s, %d", seed, tell(m), tell(two), e)
		}
		for range 60 {
			other := bytes.Clone(b)
			for range 1 + draw.Intn(2) {
				other[draw.Intn(len(other))] = byte(draw.Intn(256))
			}
			agree(t, other)
			other[5+2*draw.Intn(4)] = byte(draw.Intn(4))
			agree(t, other)
			agree(t, append(bytes.Clone(b[:draw.Intn(len(b)+1)]), make([]byte, draw.Intn(3))...))
		}
	}
}

// Bytes that are drawn, most of them small ones and pointers, behind heads of a
// few records, are held against the model; so no bytes lead to a panic, either.
func TestDecodeAsTheModel(t *testing.T) {
	pieces := []string{
		asked("\x00", 1, 1), asked("\xc0\x0c", 255, 1), asked("\x01a\x00", 0, 1), opt(512), opt(0), told("\xc0\x0c", 41, 9, 0, ""), told("\x00", 41, 9, 1<<31, "x"),
		addressTold("\x00", 4), addressTold("\xc0\x0c", 4), told("\x01b\xc0\x0c", 2, 1, 1, "\xc0\x0c"), told("\x00", 0, 1, 1, ""),
		told("\xc0\x02", 41, 1, 1, ""), "\x00", "\x40", "\xc0", "\x01a",
	}
	seen := map[api.Errno]int{}
	for seed := range 40 {
		draw := rand.New(rand.NewSource(int64(seed)))
		for range 3000 {
			b := head(draw.Intn(65536), draw.Intn(65536), draw.Intn(2), draw.Intn(2), draw.Intn(2), draw.Intn(4))
			for range draw.Intn(6) {
				b += pieces[draw.Intn(len(pieces))]
			}
			seen[agree(t, []byte(b))]++
			b = b[:12]
			for range draw.Intn(40) {
				b += string([]byte{"\x00\x00\x00\x01\x02\x29\x40\xc0\xff"[draw.Intn(9)]})
			}
			seen[agree(t, []byte(b))]++
		}
	}
	for _, e := range []api.Errno{api.OK, api.ErrShort, api.ErrForm, api.ErrName, api.ErrLoop, api.ErrExtra} {
		if seen[e] < 100 {
			t.Errorf("error %d was met %d times", e, seen[e])
		}
	}
}
