package cut_test

import (
	"bytes"
	"fmt"
	"math"
	"reflect"
	"slices"
	"strings"
	"testing"

	"gazetteer/api"
	"gazetteer/cut"
	"gazetteer/msg"
)

// A head has 12 bytes; a plain record of the root's name has 11 and its data's.
const (
	head  = 12
	small = 11
)

// plain is a record of the root's name, of size bytes in all.
func plain(kind, size int) api.RR {
	return api.RR{Type: kind, Class: api.IN, TTL: 9, Data: api.Data{Bytes: bytes.Repeat([]byte{7}, size-small)}}
}

// named is a record that has a name, and one byte that tells it from others.
func named(kind int, last byte, labels ...string) api.RR {
	return api.RR{Name: labels, Type: kind, Class: api.IN, TTL: 9, Data: api.Data{Bytes: []byte{1, 2, 3, last}}}
}

// plains are count plain records, of as many types from 100 on, of size bytes each.
func plains(count, size int) []api.RR {
	var list []api.RR
	for i := range count {
		list = append(list, plain(100+i, size))
	}
	return list
}

func ask(labels ...string) api.Question {
	return api.Question{Name: labels, Type: api.A, Class: api.IN}
}

// longest is a name of 255 bytes that begins with the letter.
func longest(letter string) []string {
	return []string{letter + strings.Repeat("a", 62), strings.Repeat("b", 63), strings.Repeat("c", 63), strings.Repeat("d", 61)}
}

// tell is any value as text, cut where it is long.
func tell(x any) string {
	s := fmt.Sprintf("%+v", x)
	return s[:min(len(s), 300)]
}

// fits holds Fit against the bytes of want, which are at most size.
func fits(t *testing.T, m api.Msg, size int, want api.Msg) {
	t.Helper()
	told, e := msg.Encode(want)
	if e != api.OK || len(told) > size {
		t.Fatalf("%s is not to be had: %d bytes, %d", tell(want), len(told), e)
	}
	if b, e := cut.Fit(m, size); e != api.OK || !bytes.Equal(b, told) {
		got, _ := msg.Decode(b)
		t.Errorf("Fit(%s, %d): %d bytes, %d, not %d:\n%s, not\n%s", tell(m), size, len(b), e, len(told), tell(got), tell(want))
	}
}

// refused holds Fit's error.
func refused(t *testing.T, m api.Msg, size int, want api.Errno) {
	t.Helper()
	if b, e := cut.Fit(m, size); e != want || b != nil {
		t.Errorf("Fit(%s, %d): %d bytes, %d, not %d", tell(m), size, len(b), e, want)
	}
}

// less answers m with as many records alone, and TC as told.
func less(m api.Msg, answers, auth, extra int, tc bool) api.Msg {
	m.Answers, m.Auth, m.Extra, m.TC = m.Answers[:answers:answers], m.Auth[:auth:auth], m.Extra[:extra:extra], tc
	return m
}

// unsound are messages that can't be written.
func unsound() []api.Msg {
	return []api.Msg{
		{ID: -1}, {ID: 65536}, {Opcode: 16}, {Rcode: -1}, {Size: 512}, {Edns: true, Size: 65536},
		{Questions: []api.Question{{}}},
		{Questions: []api.Question{ask("")}},
		{Answers: []api.RR{{Type: api.A, Class: api.IN}}},
		{Auth: []api.RR{{}}},
		{Extra: []api.RR{{Type: api.OPT, Class: 512}}},
		{Extra: append(plains(3, 11), plain(99, 11), api.RR{Type: -1})},
		// Left out or not, none may be unsound, nor may there be too many.
		{Answers: plains(50, 20), Extra: []api.RR{{Type: 99, Class: -1}}},
		{Answers: append(plains(50, 20), api.RR{Type: 99, TTL: -1})},
		{Extra: plains(513, 11)},
		{Extra: plains(513, 11), Edns: true},
		{Answers: plains(100, 11), Auth: plains(200, 11), Extra: plains(213, 11)},
	}
}

func TestFitOfSizesThatMayNotBe(t *testing.T) {
	good := api.Msg{Questions: []api.Question{ask("a")}}
	for _, size := range []int{math.MinInt, -65535, -512, -1, 0, 1, 12, 255, 256, 510, 511, 65536, 65537, 1 << 17, 1<<32 + 512, math.MaxInt} {
		refused(t, good, size, api.ErrArg)
		refused(t, api.Msg{}, size, api.ErrArg)
		// It comes ahead of all else.
		for _, m := range unsound() {
			refused(t, m, size, api.ErrArg)
		}
		refused(t, api.Msg{Questions: []api.Question{ask(longest("x")...), ask(longest("y")...)}}, size, api.ErrArg)
	}
	for _, size := range []int{512, 513, 1232, 4096, 65534, 65535} {
		fits(t, good, size, good)
		fits(t, api.Msg{}, size, api.Msg{})
	}
}

func TestFitOfUnsound(t *testing.T) {
	for _, m := range unsound() {
		for _, size := range []int{512, 4096, 65535} {
			refused(t, m, size, api.ErrForm)
			// It comes ahead of what is too large.
			m.Questions = append(slices.Clip(m.Questions), ask(longest("x")...), ask(longest("y")...))
			refused(t, m, size, api.ErrForm)
		}
	}
}

// The chapter's example: the addresses are of 16 bytes each.
func TestFitOfTwentyAddresses(t *testing.T) {
	n := []string{strings.Repeat("a", 28)}
	m := api.Msg{ID: 5, Response: true, Questions: []api.Question{{Name: n, Type: api.AAAA, Class: api.IN}}}
	for i := range 20 {
		d := api.Data{Bytes: append(make([]byte, 15), byte(i))}
		m.Answers = append(m.Answers, api.RR{Name: n, Type: api.AAAA, Class: api.IN, TTL: 1, Data: d})
	}
	fits(t, m, 512, less(m, 0, 0, 0, true))
	// They need 12 + 34 + 20 * 28.
	fits(t, m, 605, less(m, 0, 0, 0, true))
	fits(t, m, 606, m)
}

// Twenty of four bytes each fit, since their names are short.
func TestFitOfTwentyShortAddresses(t *testing.T) {
	n := []string{strings.Repeat("a", 28)}
	m := api.Msg{Response: true, Questions: []api.Question{ask(n...)}}
	for i := range 20 {
		m.Answers = append(m.Answers, named(api.A, byte(i), n...))
	}
	fits(t, m, 512, m)
}

// What is of as many bytes as may be is told whole, of one more not.
func TestFitAtTheEdge(t *testing.T) {
	for _, size := range []int{512, 513, 1000, 4096, 16384, 65534, 65535} {
		for _, more := range []int{-1, 0} {
			one := plain(99, size-head+more)
			fits(t, api.Msg{Answers: []api.RR{one}}, size, api.Msg{Answers: []api.RR{one}})
			fits(t, api.Msg{Auth: []api.RR{one}}, size, api.Msg{Auth: []api.RR{one}})
			fits(t, api.Msg{Extra: []api.RR{one}}, size, api.Msg{Extra: []api.RR{one}})
			edns := api.Msg{Answers: []api.RR{plain(99, size-head-small+more)}, Edns: true, Size: 700}
			fits(t, edns, size, edns)
		}
		for _, more := range []int{1, 2, 12, 23} { // with 24 its data would have too many bytes of its own
			one := plain(99, size-head+more)
			fits(t, api.Msg{Answers: []api.RR{one}}, size, api.Msg{TC: true})
			fits(t, api.Msg{Auth: []api.RR{one}}, size, api.Msg{TC: true})
			fits(t, api.Msg{Extra: []api.RR{one}}, size, api.Msg{})
			edns := api.Msg{Answers: []api.RR{plain(99, size-head-small+more)}, Edns: true, Size: 700}
			fits(t, edns, size, api.Msg{TC: true, Edns: true, Size: 700})
		}
	}
}

// What a message has beside its records stays: its numbers, flags, questions, EDNS.
func TestFitKeepsAllElse(t *testing.T) {
	m := api.Msg{
		ID: 65535, Response: true, Opcode: 15, AA: true, RD: true, RA: true, Rcode: 15,
		Questions: []api.Question{ask("a", "b"), ask("c", "b")},
		Answers:   plains(30, 100), Auth: plains(30, 100), Extra: plains(30, 100),
		Edns: true, Size: 65535,
	}
	// 12, 9, 8 and 11 bytes are ahead of and behind the records.
	for size, kept := range map[int]int{512: 4, 539: 4, 540: 5, 3039: 29, 3040: 30} {
		fits(t, m, size, less(m, kept, 0, 0, true))
	}
	fits(t, m, 3139, less(m, 30, 0, 0, true))
	fits(t, m, 3140, less(m, 30, 1, 0, true))
	fits(t, m, 6039, less(m, 30, 29, 0, true))
	fits(t, m, 6040, less(m, 30, 30, 0, false))
	fits(t, m, 6140, less(m, 30, 30, 1, false))
	fits(t, m, 9039, less(m, 30, 30, 29, false))
	fits(t, m, 9040, m)
	// TC is told still where it was.
	m.TC = true
	for size, kept := range map[int][3]int{512: {4, 0, 0}, 6040: {30, 30, 0}, 9039: {30, 30, 29}, 9040: {30, 30, 30}} {
		fits(t, m, size, less(m, kept[0], kept[1], kept[2], true))
	}
}

// As many as fit stay, whatever one's size is: a small one behind a large one that
// is left out goes, too.
func TestFitLeavesOutTheLastFirst(t *testing.T) {
	list := []api.RR{plain(1001, 100), plain(1002, 100), plain(1003, 600), plain(1004, 11), plain(1005, 11)}
	fits(t, api.Msg{Extra: list}, 512, api.Msg{Extra: list[:2]})
	fits(t, api.Msg{Auth: list}, 512, api.Msg{Auth: list[:2], TC: true})
	fits(t, api.Msg{Answers: list}, 512, api.Msg{Answers: list[:2], TC: true})
	some := plains(1, 11)
	fits(t, api.Msg{Auth: list, Extra: some}, 512, api.Msg{Auth: list[:2], TC: true})
	fits(t, api.Msg{Answers: list, Extra: some}, 512, api.Msg{Answers: list[:2], TC: true})
	fits(t, api.Msg{Answers: list, Auth: some, Extra: some}, 512, api.Msg{Answers: list[:2], TC: true})
	fits(t, api.Msg{Answers: some, Auth: list, Extra: some}, 512, api.Msg{Answers: some, Auth: list[:2], TC: true})
	fits(t, api.Msg{Answers: some, Auth: some, Extra: list}, 512, api.Msg{Answers: some, Auth: some, Extra: list[:2]})
}

// TC tells that some of Answers or Auth are not there; of Extra it tells nothing.
func TestFitSetsTC(t *testing.T) {
	told := plains(2, 250) // 512 with the head
	for _, extra := range [][]api.RR{plains(1, 11), plains(40, 11), plains(1, 65000), plains(5, 65000)} {
		fits(t, api.Msg{Answers: told, Extra: extra}, 512, api.Msg{Answers: told})
		fits(t, api.Msg{Auth: told, Extra: extra}, 512, api.Msg{Auth: told})
		fits(t, api.Msg{Answers: told[:1], Auth: told[:1], Extra: extra}, 512, api.Msg{Answers: told[:1], Auth: told[:1]})
		fits(t, api.Msg{TC: true, Answers: told, Extra: extra}, 512, api.Msg{TC: true, Answers: told})
		one := api.Msg{Answers: told, Auth: plains(1, 11), Extra: extra}
		fits(t, one, 512, api.Msg{TC: true, Answers: told})
		fits(t, one, 522, api.Msg{TC: true, Answers: told})
		fits(t, one, 523, less(one, 2, 1, min(len(extra), 0), false))
	}
	fits(t, api.Msg{Extra: plains(20, 50)}, 512, api.Msg{Extra: plains(10, 50)})
	fits(t, api.Msg{Questions: []api.Question{ask(longest("x")...)}, Extra: plains(1, 300)}, 512, api.Msg{Questions: []api.Question{ask(longest("x")...)}})
}

// A set of Answers goes as a whole, how few of it do not fit.
func TestFitPartsNoSet(t *testing.T) {
	set := func(count int, labels ...string) []api.RR {
		var list []api.RR
		for i := range count {
			list = append(list, named(api.A, byte(i), labels...))
		}
		return list
	}
	// 17 bytes of the first one, 16 of each other one.
	a, b := set(10, "a"), set(21, "b")
	both := slices.Concat(a, b)
	fits(t, api.Msg{Answers: both}, 512, api.Msg{Answers: both}) // 510 bytes
	one := api.Msg{Answers: slices.Concat(a, set(22, "b"))}
	fits(t, one, 512, api.Msg{Answers: a, TC: true})
	fits(t, one, 12+161+353-1, api.Msg{Answers: a, TC: true})
	fits(t, one, 12+161+353, one)
	// Capital letters are of no matter, classes neither: their names and types are one.
	one.Answers[20].Name = []string{"B"}
	one.Answers[25].Class = 3
	fits(t, one, 512, api.Msg{Answers: a, TC: true})
	// Behind another one, those ahead of it are not in a row with it.
	one.Answers[20] = named(api.AAAA+1, 0, "b")
	fits(t, one, 512, api.Msg{Answers: one.Answers[:21], TC: true})
	one.Answers[20] = named(api.A, 0, "c")
	fits(t, one, 512, api.Msg{Answers: one.Answers[:21], TC: true})
	// Just up to where a set ends.
	two := api.Msg{Answers: slices.Concat(set(31, "a"), set(1, "b"), set(1, "c"))}
	fits(t, two, 512, api.Msg{Answers: two.Answers[:31], TC: true})
	fits(t, two, 525, api.Msg{Answers: two.Answers[:31], TC: true})
	fits(t, two, 526, api.Msg{Answers: two.Answers[:32], TC: true})
	fits(t, two, 542, api.Msg{Answers: two.Answers[:32], TC: true})
	fits(t, two, 543, two)
}

// A set that is the first one goes, too; and then there is none.
func TestFitLeavesOutTheOnlySet(t *testing.T) {
	var m api.Msg
	for i := range 64 {
		m.Answers = append(m.Answers, named(api.A, byte(i), "a"))
	}
	// 12 and 17 bytes, and 63 times 16.
	for _, size := range []int{512, 1000, 1036} {
		fits(t, m, size, api.Msg{TC: true})
	}
	fits(t, m, 1037, m)
	m.Auth = []api.RR{named(99, 0, "b"), named(99, 1, "b")}
	fits(t, m, 1037, less(m, 64, 0, 0, true))
	fits(t, m, 1036, api.Msg{TC: true})
	// What follows in Auth is of no set of Answers.
	m.Auth = []api.RR{named(api.A, 0, "a"), named(api.A, 1, "a")}
	fits(t, m, 1037, less(m, 64, 0, 0, true))
	fits(t, m, 1037+15, less(m, 64, 0, 0, true))
	fits(t, m, 1037+16, less(m, 64, 1, 0, true))
}

// Auth and Extra are left out one by one, sets or not.
func TestFitPartsAuthAndExtra(t *testing.T) {
	var list []api.RR
	for i := range 40 {
		list = append(list, named(api.A, byte(i), "a"))
	}
	// 12 and 17 bytes, and 30 times 16: 509.
	fits(t, api.Msg{Auth: list}, 512, api.Msg{Auth: list[:31], TC: true})
	fits(t, api.Msg{Extra: list}, 512, api.Msg{Extra: list[:31]})
	fits(t, api.Msg{Answers: list[:10], Auth: list[10:]}, 512, api.Msg{Answers: list[:10], Auth: list[10:31], TC: true})
	fits(t, api.Msg{Answers: list[:10], Extra: list[10:]}, 512, api.Msg{Answers: list[:10], Extra: list[10:31]})
	fits(t, api.Msg{Auth: list[:10], Extra: list[10:]}, 512, api.Msg{Auth: list[:10], Extra: list[10:31]})
	fits(t, api.Msg{Answers: list[:31], Auth: list[31:]}, 512, api.Msg{Answers: list[:31], TC: true})
	fits(t, api.Msg{Answers: list[:31], Extra: list[31:]}, 512, api.Msg{Answers: list[:31]})
}

// A message of more bytes than one may have is cut as any other.
func TestFitOfMoreThanAMessage(t *testing.T) {
	large := plains(3, 40000)
	fits(t, api.Msg{Answers: large}, 65535, api.Msg{Answers: large[:1], TC: true})
	fits(t, api.Msg{Auth: large}, 65535, api.Msg{Auth: large[:1], TC: true})
	fits(t, api.Msg{Extra: large}, 65535, api.Msg{Extra: large[:1]})
	fits(t, api.Msg{Answers: large}, 512, api.Msg{TC: true})
	fits(t, api.Msg{Answers: plains(1, 100), Auth: large, Extra: large}, 512, api.Msg{Answers: plains(1, 100), TC: true})
	for _, size := range []int{65535 + small, 65534 + small, 65536} {
		fits(t, api.Msg{Extra: []api.RR{plain(99, size)}}, 65535, api.Msg{})
	}
	most := api.Msg{Extra: plains(512, 11+65535), Edns: true, Size: 4096}
	fits(t, most, 65535, api.Msg{Edns: true, Size: 4096})
	most.Extra[0] = plain(99, 65535-head-small)
	fits(t, most, 65535, api.Msg{Extra: most.Extra[:1], Edns: true, Size: 4096})
	fits(t, most, 65534, api.Msg{Edns: true, Size: 4096})
}

// As many records as may be, and EDNS beside them.
func TestFitOfMostRecords(t *testing.T) {
	m := api.Msg{Answers: plains(171, 11), Auth: plains(171, 11), Extra: plains(170, 11), Edns: true, Size: 1}
	for _, kept := range []int{45, 171, 172, 300, 342, 343, 511, 512} {
		want := less(m, min(kept, 171), min(max(kept-171, 0), 171), max(kept-342, 0), kept < 342)
		fits(t, m, head+small+11*kept, want)
		if kept < 512 {
			fits(t, m, head+small+11*kept+10, want)
		}
	}
}

// Questions are no records: where they alone are too many bytes, nothing helps.
func TestFitOfTooLargeQuestions(t *testing.T) {
	one := []api.Question{ask(longest("x")...)}
	two := append(one[:1:1], api.Question{Name: []string{strings.Repeat("y", 63), strings.Repeat("z", 63), strings.Repeat("y", 63), strings.Repeat("w", 43)}, Type: 1})
	// 12 and 259 and 241 bytes.
	fits(t, api.Msg{Questions: two}, 512, api.Msg{Questions: two})
	fits(t, api.Msg{Questions: two, Answers: plains(1, 11)}, 512, api.Msg{Questions: two, TC: true})
	fits(t, api.Msg{Questions: two, Auth: plains(1, 11)}, 522, api.Msg{Questions: two, TC: true})
	fits(t, api.Msg{Questions: two, Extra: plains(1, 11)}, 512, api.Msg{Questions: two})
	more := append(two[:1:1], two[1])
	more[1].Name = append(slices.Clip(two[1].Name[:3]), strings.Repeat("w", 44))
	for _, m := range []api.Msg{
		{Questions: more}, {Questions: more, Answers: plains(9, 99)}, {Questions: more, Auth: plains(9, 99)}, {Questions: more, Extra: plains(9, 99)},
		{Questions: more, Answers: plains(9, 99), Auth: plains(9, 99), Extra: plains(9, 99)},
		{Questions: more, Answers: plains(9, 65000)}, {Questions: more, Extra: plains(9, 65000)},
		// EDNS is none of the records that are left out.
		{Questions: two, Edns: true}, {Questions: two, Edns: true, Size: 4096, Extra: plains(1, 11)},
		{Questions: slices.Repeat([]api.Question{ask()}, 101)},
	} {
		refused(t, m, 512, api.ErrLarge)
	}
	fits(t, api.Msg{Questions: more}, 513, api.Msg{Questions: more})
	fits(t, api.Msg{Questions: two, Edns: true}, 523, api.Msg{Questions: two, Edns: true})
	refused(t, api.Msg{Questions: two, Edns: true}, 522, api.ErrLarge)
	// Of more bytes than a message: 512 names of which none leads to another.
	var all []api.Question
	for i := range 512 {
		n := longest(string([]byte{byte('a' + i/26), byte('a' + i%26)}))
		n[0] = n[0][:62]
		n[3] = n[0]
		all = append(all, ask(n...))
	}
	refused(t, api.Msg{Questions: all}, 65535, api.ErrLarge)
	refused(t, api.Msg{Questions: all}, 512, api.ErrLarge)
}

// roomy answers list with two places more, or more, which are filled.
func roomy(list []api.RR) []api.RR {
	out := slices.Clone(list)
	for i := range out {
		out[i].Name = append(slices.Clone(out[i].Name), "p", "q")[:len(out[i].Name)]
		d := out[i].Data.Bytes
		out[i].Data.Bytes = append(slices.Clone(d), 5, 5)[:len(d)]
	}
	return append(out, named(77, 7, "spare"), named(78, 8, "spare"))[:len(list)]
}

// whole answers list as long as its room, and so all in it.
func whole(list []api.RR) []api.RR {
	out := slices.Clone(list[:cap(list)])
	for i := range out {
		n, d := out[i].Name, out[i].Data.Bytes
		out[i].Name, out[i].Data.Bytes = n[:cap(n)], d[:cap(d)]
	}
	return out
}

// spoil writes over all that list has, and over its room.
func spoil(list []api.RR) {
	list = whole(list)
	for i := range list {
		for j := range list[i].Name {
			list[i].Name[j] = "spoilt"
		}
		for j := range list[i].Data.Bytes {
			list[i].Data.Bytes[j] = 99
		}
	}
}

// What is handed in has spare room, and is as it was behind every call; and what
// is answered is one's own.
func TestFitChangesNothingHandedIn(t *testing.T) {
	list := append(unsound(),
		api.Msg{Answers: plains(1, 20), Auth: plains(1, 20), Extra: plains(1, 20)},
		api.Msg{Answers: plains(9, 99), Auth: plains(9, 99), Extra: plains(9, 99)},
		api.Msg{Answers: plains(2, 99), Auth: plains(9, 99), Extra: plains(9, 99)},
		api.Msg{Answers: plains(1, 99), Auth: plains(1, 99), Extra: plains(9, 99)},
		api.Msg{Answers: slices.Repeat(plains(1, 99), 9), Auth: plains(9, 99)},
		api.Msg{Questions: []api.Question{ask(longest("x")...), ask(longest("y")...), ask(longest("z")...)}, Extra: plains(9, 99)},
		api.Msg{Extra: plains(1, 65000)},
	)
	for _, c := range list {
		for _, edns := range []bool{false, true} {
			fresh := func() api.Msg {
				m := c
				m.Edns = edns
				m.Answers, m.Auth, m.Extra = roomy(m.Answers), roomy(m.Auth), roomy(m.Extra)
				return m
			}
			m, ahead := fresh(), fresh()
			cut.Fit(m, 511)
			one, _ := cut.Fit(m, 512)
			two, _ := cut.Fit(m, 512)
			for _, pair := range [][2][]api.RR{{m.Answers, ahead.Answers}, {m.Auth, ahead.Auth}, {m.Extra, ahead.Extra}} {
				if !reflect.DeepEqual(whole(pair[0]), whole(pair[1])) {
					t.Errorf("%s was changed: %s", tell(ahead), tell(m))
				}
			}
			want := string(two)
			for i := range one {
				one[i] = 99
			}
			spoil(m.Answers)
			spoil(m.Auth)
			spoil(m.Extra)
			if string(two) != want {
				t.Errorf("Fit(%s) shares its answer", tell(ahead))
			}
		}
	}
}
