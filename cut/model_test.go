package cut_test

import (
	"bytes"
	"math/rand"
	"slices"
	"strings"
	"testing"

	"gazetteer/api"
	"gazetteer/cut"
	"gazetteer/msg"
	"gazetteer/rr"
	"gazetteer/wname"
)

// bytesOf answers the bytes of a sound message, however many they are.
func bytesOf(m api.Msg) []byte {
	w := wname.New()
	bit := func(on bool, n int) int {
		if on {
			return n
		}
		return 0
	}
	w.Num(m.ID, 2)
	w.Num(bit(m.Response, 32768)+m.Opcode*2048+bit(m.AA, 1024)+bit(m.TC, 512)+bit(m.RD, 256)+bit(m.RA, 128)+m.Rcode, 2)
	w.Num(len(m.Questions), 2)
	w.Num(len(m.Answers), 2)
	w.Num(len(m.Auth), 2)
	w.Num(len(m.Extra)+bit(m.Edns, 1), 2)
	for _, q := range m.Questions {
		w.Name(q.Name, true)
		w.Num(q.Type, 2)
		w.Num(q.Class, 2)
	}
	for _, r := range slices.Concat(m.Answers, m.Auth, m.Extra) {
		rr.Put(w, r)
	}
	if m.Edns {
		rr.Put(w, api.RR{Type: 41, Class: m.Size})
	}
	return w.Bytes()
}

// modelFit leaves out one record after another, as the document tells it.
func modelFit(m api.Msg, size int) ([]byte, api.Errno) {
	if size < 512 || size > 65535 {
		return nil, api.ErrArg
	}
	if !msg.Sound(m) {
		return nil, api.ErrForm
	}
	for {
		b := bytesOf(m)
		switch {
		case len(b) <= size:
			return b, api.OK
		case len(m.Extra) > 0:
			m.Extra = m.Extra[:len(m.Extra)-1]
		case len(m.Auth) > 0:
			m.TC = true
			m.Auth = m.Auth[:len(m.Auth)-1]
		case len(m.Answers) > 0:
			m.TC = true
			last := m.Answers[len(m.Answers)-1]
			for n := len(m.Answers); n > 0; n-- {
				r := m.Answers[n-1]
				if r.Type != last.Type || !strings.EqualFold(strings.Join(r.Name, "."), strings.Join(last.Name, ".")) {
					break
				}
				m.Answers = m.Answers[:n-1]
			}
		default:
			return nil, api.ErrLarge
		}
	}
}

// drawnName is one of few names, of letters alone.
func drawnName(draw *rand.Rand) []string {
	names := [][]string{{"a"}, {"A"}, {"b"}, {"www", "example"}, {"WWW", "Example"}, {"example"}, nil, {strings.Repeat("k", 50), "a"}}
	return names[draw.Intn(len(names))]
}

// drawnList is a list of some records, many of which are in a row of one set.
func drawnList(draw *rand.Rand, most int) []api.RR {
	var list []api.RR
	for range draw.Intn(most + 1) {
		r := api.RR{Name: drawnName(draw), Class: 1 + draw.Intn(2), TTL: draw.Intn(1000)}
		r.Type = 99 + draw.Intn(3)
		if len(list) > 0 && draw.Intn(3) > 0 {
			r.Name, r.Type = list[len(list)-1].Name, list[len(list)-1].Type
		}
		size := draw.Intn(40)
		if draw.Intn(40) == 0 {
			size = draw.Intn(2000)
		}
		if draw.Intn(2000) == 0 {
			size = draw.Intn(65536)
		}
		r.Data.Bytes = bytes.Repeat([]byte{byte(draw.Intn(256))}, size)
		list = append(list, r)
	}
	return list
}

func drawnMsg(draw *rand.Rand) api.Msg {
	yes := func() bool { return draw.Intn(2) == 0 }
	m := api.Msg{
		ID: draw.Intn(65536), Response: yes(), Opcode: draw.Intn(16), AA: yes(), TC: draw.Intn(4) == 0, RD: yes(), RA: yes(), Rcode: draw.Intn(16),
		Edns: yes(),
	}
	if m.Edns {
		m.Size = draw.Intn(65536)
	}
	for range draw.Intn(3) {
		m.Questions = append(m.Questions, api.Question{Name: drawnName(draw), Type: 1 + draw.Intn(65535), Class: 1})
	}
	if draw.Intn(20) == 0 {
		m.Questions = append(m.Questions, ask(longest("x")...), ask(longest("y")...), ask(longest("z")...))
	}
	most := []int{2, 5, 20, 60}[draw.Intn(4)]
	m.Answers, m.Auth, m.Extra = drawnList(draw, most), drawnList(draw, most), drawnList(draw, most)
	return m
}

func TestFitAsTheModel(t *testing.T) {
	draw := rand.New(rand.NewSource(7))
	for range 1000 {
		m := drawnMsg(draw)
		all := len(bytesOf(m))
		for _, size := range []int{512, 512 + draw.Intn(600), all - 1, all, all + 1, draw.Intn(65536), min(max(draw.Intn(all), 512), 65535)} {
			want, wantE := modelFit(m, size)
			b, e := cut.Fit(m, size)
			if e != wantE || !bytes.Equal(b, want) {
				t.Fatalf("Fit(%s, %d): %d bytes, %d, not %d, %d", tell(m), size, len(b), e, len(want), wantE)
			}
		}
	}
}
