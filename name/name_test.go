package name_test

import (
	"bytes"
	"slices"
	"strings"
	"testing"

	"gazetteer/name"
)

// label makes a label of size bytes.
func label(size int) string {
	return strings.Repeat("a", size)
}

// sized makes a name of labels with so many bytes each.
func sized(sizes ...int) []string {
	var n []string
	for _, size := range sizes {
		n = append(n, label(size))
	}
	return n
}

// times makes a name of count labels with size bytes each.
func times(count, size int) []string {
	var n []string
	for range count {
		n = append(n, label(size))
	}
	return n
}

func TestSizeIsOneAndEachLabelOneMoreThanItsBytes(t *testing.T) {
	cases := []struct {
		n    []string
		want int
	}{
		{nil, 1},
		{[]string{}, 1},
		{[]string{"a"}, 3},
		{[]string{"www", "example"}, 13},
		{[]string{"a.b"}, 5},
		{[]string{"\x00\xff"}, 4},
		{[]string{"\xc3\xa4"}, 4},
		{[]string{""}, 2},
		{[]string{"", "", "a"}, 5},
		{sized(63, 63, 63, 61), 255},
		{sized(63, 63, 63, 62), 256},
		{sized(64), 66},
		{times(127, 1), 255},
		{times(1000, 1000), 1001001},
	}
	for _, c := range cases {
		if got := name.Size(c.n); got != c.want {
			t.Errorf("Size(%q) is %d, not %d", c.n, got, c.want)
		}
	}
}

func TestSound(t *testing.T) {
	for _, n := range [][]string{
		nil, {}, {"a"}, {"www", "example"}, {"a.b", "\\"}, {"\x00"}, {"\xff\xfe"}, {" "}, {"*"}, {"A"},
		sized(1), sized(62), sized(63), sized(63, 63, 63, 61), sized(61, 63, 63, 63), sized(1, 63, 63, 63, 59),
		times(126, 1), times(127, 1), append(times(125, 1), "ab"), append(times(126, 1), "b"),
	} {
		if !name.Sound(n) {
			t.Errorf("Sound(%q) is false", n)
		}
	}
}

func TestNotSound(t *testing.T) {
	for _, n := range [][]string{
		{""}, {"", ""}, {"a", ""}, {"", "a"}, {"a", "", "b"},
		sized(64), sized(65), sized(255), sized(256), sized(1, 64), sized(64, 1), sized(1, 64, 1), sized(100000),
		sized(63, 63, 63, 62), sized(62, 63, 63, 63), sized(63, 63, 63, 63), sized(1, 63, 63, 63, 60),
		times(128, 1), append(times(126, 1), "ab"), append([]string{"ab"}, times(126, 1)...), times(100000, 1),
	} {
		if name.Sound(n) {
			t.Errorf("Sound of %d labels, %d bytes, is true", len(n), name.Size(n))
		}
	}
}

// Every byte alone is held against what the document calls small letters.
func TestLowerOfEachByte(t *testing.T) {
	const capitals = "ABCDEFGHIJKLMNOPQRSTUVWXYZ"
	const smalls = "abcdefghijklmnopqrstuvwxyz"
	for c := range 256 {
		want := []byte{byte(c)}
		if i := strings.IndexByte(capitals, byte(c)); i >= 0 {
			want[0] = smalls[i]
		}
		got := name.Lower([]string{"x" + string([]byte{byte(c)}) + "x"})
		if len(got) != 1 || got[0] != "x"+string(want)+"x" {
			t.Errorf("Lower of byte %d is %q", c, got)
		}
	}
}

func TestLower(t *testing.T) {
	cases := []struct{ n, want []string }{
		{nil, nil},
		{[]string{}, nil},
		{[]string{"WWW", "Example"}, []string{"www", "example"}},
		{[]string{"already"}, []string{"already"}},
		{[]string{"", "A", ""}, []string{"", "a", ""}},
		{[]string{"A-1.B\\C"}, []string{"a-1.b\\c"}},
		{[]string{"\xc3\x84\xffZ"}, []string{"\xc3\x84\xffz"}},
		{[]string{"\u212aK\u0130I"}, []string{"\u212ak\u0130i"}},
		{[]string{strings.Repeat("Q", 300)}, []string{strings.Repeat("q", 300)}},
	}
	for _, c := range cases {
		if got := name.Lower(c.n); !slices.Equal(got, c.want) {
			t.Errorf("Lower(%q) is %q, not %q", c.n, got, c.want)
		}
	}
}

func TestEqual(t *testing.T) {
	for _, c := range [][2][]string{
		{nil, nil},
		{nil, {}},
		{{"a"}, {"a"}},
		{{"WWW", "example"}, {"www", "EXAMPLE"}},
		{{"aZ0-[@"}, {"Az0-[@"}},
		{{""}, {""}},
		{{"", "A"}, {"", "a"}},
		{{"\xff"}, {"\xff"}},
		{{"\x00"}, {"\x00"}},
		{{strings.Repeat("x", 300)}, {strings.Repeat("X", 300)}},
	} {
		if !name.Equal(c[0], c[1]) || !name.Equal(c[1], c[0]) {
			t.Errorf("Equal(%q, %q) is false", c[0], c[1])
		}
	}
}

func TestNotEqual(t *testing.T) {
	for _, c := range [][2][]string{
		{nil, {""}},
		{nil, {"a"}},
		{{"a"}, {"b"}},
		{{"a"}, {"ab"}},
		{{"a"}, {"a", "a"}},
		{{"a", "b"}, {"b", "a"}},
		{{"a", "b"}, {"a"}},
		{{"a", "b"}, {"b"}},
		{{"a.b"}, {"a", "b"}},
		{{"ab", "c"}, {"a", "bc"}},
		{{"ab"}, {"a", "b"}},
		{{"a", ""}, {"a"}},
		{{"", "a"}, {"a"}},
		{{"@"}, {"`"}},
		{{"["}, {"{"}},
		{{"A"}, {"!"}},
		{{"\xc3\x84"}, {"\xc3\xa4"}},
		{{"\xc0"}, {"\xe0"}},
		{{"\xfe"}, {"\xff"}},
		{{"\xff"}, {"\ufffd"}},
		{{"\u212a"}, {"k"}},
		{{"\u017f"}, {"s"}},
	} {
		if name.Equal(c[0], c[1]) || name.Equal(c[1], c[0]) {
			t.Errorf("Equal(%q, %q) is true", c[0], c[1])
		}
	}
}

// ordered are names, each one less than all behind it.
var ordered = [][]string{
	{},
	{""},
	{"", ""},
	{"z", ""},
	{"\x00"},
	{"\x00\x00"},
	{"-"},
	{"0"},
	{"9"},
	{"@"},
	{"["},
	{"_"},
	{"`"},
	{"a"},
	{"", "A"},
	{"\x00", "a"},
	{"a", "a"},
	{"z", "a", "a"},
	{"ab", "a"},
	{"b", "a"},
	{"a", "b", "a"},
	{"a\x00"},
	{"aa"},
	{"ab"},
	{"B"},
	{"a", "b"},
	{"example"},
	{"a", "example"},
	{"yljkjljk", "a", "example"},
	{"Z", "a", "example"},
	{"zABC", "a", "EXAMPLE"},
	{"z", "example"},
	{"\x01", "z", "example"},
	{"*", "z", "example"},
	{"\xc8", "z", "example"},
	{"z"},
	{"{"},
	{"\x7f"},
	{"\x80"},
	{"\xc3\x84"},
	{"\xc3\xa4"},
	{"\xff"},
	{"a", "\xff"},
}

func TestCmpOfOrderedNames(t *testing.T) {
	for i, a := range ordered {
		for j, b := range ordered {
			want := 0
			if i < j {
				want = -1
			}
			if i > j {
				want = 1
			}
			if got := name.Cmp(a, b); got != want {
				t.Errorf("Cmp(%q, %q) is %d, not %d", a, b, got, want)
			}
			if got := name.Equal(a, b); got != (i == j) {
				t.Errorf("Equal(%q, %q) is %v", a, b, got)
			}
		}
	}
}

func TestCmpIsNoughtJustIfEqual(t *testing.T) {
	for _, c := range [][2][]string{
		{nil, nil}, {nil, {}}, {{"a"}, {"A"}}, {{"Z", "a"}, {"z", "A"}}, {{""}, {""}},
		{{"WWW", "\xff", "eXample"}, {"www", "\xff", "ExAmple"}},
	} {
		if got := name.Cmp(c[0], c[1]); got != 0 {
			t.Errorf("Cmp(%q, %q) is %d", c[0], c[1], got)
		}
	}
	names := manyNames()
	for _, a := range names {
		for _, b := range names {
			if order := name.Cmp(a, b); (order == 0) != name.Equal(a, b) || order != -name.Cmp(b, a) || order < -1 || order > 1 {
				t.Errorf("Cmp(%q, %q) is %d, the other way round %d, Equal %v", a, b, order, name.Cmp(b, a), name.Equal(a, b))
			}
		}
	}
}

// manyNames are all names of up to three of some labels.
func manyNames() [][]string {
	labels := []string{"", "a", "A", "b", "ab", "["}
	names := [][]string{nil}
	last := names
	for range 3 {
		var next [][]string
		for _, n := range last {
			for _, l := range labels {
				next = append(next, append([]string{l}, n...))
			}
		}
		names = append(names, next...)
		last = next
	}
	return names
}

func TestUnder(t *testing.T) {
	for _, c := range [][2][]string{
		{nil, nil},
		{{}, nil},
		{{"a"}, nil},
		{{"a", "b"}, {}},
		{{"a"}, {"a"}},
		{{"A"}, {"a"}},
		{{"www", "example"}, {"example"}},
		{{"www", "example"}, {"EXAMPLE"}},
		{{"WWW", "Example"}, {"www", "eXAMPLE"}},
		{{"a", "b", "c"}, {"b", "c"}},
		{{"c", "c", "c"}, {"c", "c"}},
		{{"", "a"}, {"a"}},
		{{"a", ""}, {""}},
	} {
		if !name.Under(c[0], c[1]) {
			t.Errorf("Under(%q, %q) is false", c[0], c[1])
		}
	}
}

func TestNotUnder(t *testing.T) {
	for _, c := range [][2][]string{
		{nil, {"a"}},
		{nil, {""}},
		{{"example"}, {"www", "example"}},
		{{"a"}, {"b"}},
		{{"a", "b"}, {"a"}},
		{{"a", "b", "c"}, {"a", "b"}},
		{{"a", "b", "c"}, {"b"}},
		{{"a", "b", "c"}, {"a", "c"}},
		{{"wexample"}, {"example"}},
		{{"a", "wexample"}, {"example"}},
		{{"a.b"}, {"b"}},
		{{"a", "b"}, {"a.b"}},
		{{"a", "\xc0"}, {"\xe0"}},
		{{"a", "@"}, {"`"}},
	} {
		if name.Under(c[0], c[1]) {
			t.Errorf("Under(%q, %q) is true", c[0], c[1])
		}
	}
}

func TestParents(t *testing.T) {
	cases := []struct {
		n    []string
		want [][]string
	}{
		{nil, [][]string{nil}},
		{[]string{}, [][]string{nil}},
		{[]string{"a"}, [][]string{{"a"}, nil}},
		{[]string{"WWW", "a.b", "Example"}, [][]string{{"WWW", "a.b", "Example"}, {"a.b", "Example"}, {"Example"}, nil}},
		{[]string{"", ""}, [][]string{{"", ""}, {""}, nil}},
	}
	for _, c := range cases {
		if got := name.Parents(c.n); !slices.EqualFunc(got, c.want, slices.Equal[[]string]) {
			t.Errorf("Parents(%q) is %q, not %q", c.n, got, c.want)
		}
	}
	long := times(127, 1)
	parents := name.Parents(long)
	if len(parents) != 128 {
		t.Fatalf("%d parents of 127 labels", len(parents))
	}
	for i, p := range parents {
		if !slices.Equal(p, long[i:]) || !name.Under(long, p) {
			t.Errorf("parent %d is %q", i, p)
		}
	}
}

// marked hands a name with spare room, each place of it filled.
func marked() ([]string, []string) {
	room := []string{"WWW", "Example", "Org", "SPARE", "SPARE"}
	return room[:3], room
}

var unmarked = []string{"WWW", "Example", "Org", "SPARE", "SPARE"}

func TestWhatIsHandedInIsLeft(t *testing.T) {
	n, room := marked()
	other, otherRoom := marked()
	name.Sound(n)
	name.Size(n)
	name.Lower(n)
	name.Equal(n, other)
	name.Cmp(n, other)
	name.Under(n, other[1:])
	name.Parents(n)
	name.Text(n)
	if !slices.Equal(room, unmarked) || !slices.Equal(otherRoom, unmarked) {
		t.Errorf("changed: %q, %q", room, otherRoom)
	}
}

func TestSpareRoomIsNotRead(t *testing.T) {
	_, room := marked()
	n := room[:1]
	if name.Size(n) != 5 || name.Text(n) != "WWW." || len(name.Parents(n)) != 2 || len(name.Lower(n)) != 1 {
		t.Error("what stands in spare room is answered")
	}
	if !name.Equal(n, []string{"www"}) || name.Under(n, room[:2]) || name.Cmp(n, room[:1]) != 0 {
		t.Error("what stands in spare room is held against others")
	}
}

// overwrite fills a list and its spare room.
func overwrite(n []string) {
	n = n[:cap(n)]
	for i := range n {
		n[i] = "over"
	}
}

func TestLowerAnswersNewMemory(t *testing.T) {
	for _, n := range [][]string{{"a", "b"}, {"A", "B"}, {"a"}, {}} {
		room := append(append([]string(nil), n...), "SPARE")
		one := name.Lower(room[:len(n)])
		two := name.Lower(room[:len(n)])
		want := slices.Clone(two)
		before := slices.Clone(room)
		overwrite(one)
		if !slices.Equal(room, before) || !slices.Equal(two, want) {
			t.Errorf("Lower(%q) shares memory: %q, %q", n, room, two)
		}
		overwrite(room)
		if !slices.Equal(two, want) {
			t.Errorf("Lower(%q) keeps what it was handed", n)
		}
	}
}

func TestParentsAnswersNewMemory(t *testing.T) {
	for i := range 4 {
		n, room := marked()
		parents, others := name.Parents(n), name.Parents(n)
		overwrite(parents[i])
		for j, p := range parents {
			if j != i && !slices.Equal(p, unmarked[j:3]) {
				t.Errorf("parent %d shares memory with parent %d", i, j)
			}
		}
		for j, p := range others {
			if !slices.Equal(p, unmarked[j:3]) {
				t.Errorf("parent %d shares memory with another answer", i)
			}
		}
		if !slices.Equal(room, unmarked) {
			t.Errorf("parent %d shares memory with the name", i)
		}
		overwrite(n)
		if !slices.Equal(others[0], unmarked[:3]) {
			t.Error("Parents keeps what it was handed")
		}
	}
}

func TestTheSameCallsHaveTheSameAnswers(t *testing.T) {
	for range 3 {
		n, ok := name.Parse("WWW.a\\.b")
		if !ok || !slices.Equal(n, []string{"WWW", "a.b"}) || name.Text(n) != "WWW.a\\.b." {
			t.Errorf("%q, %v", n, ok)
		}
		name.Parse("\\")
		name.Text(times(300, 1))
		name.Lower([]string{"X"})
	}
}

// Strings may share bytes; a name's list may not.
func TestParseAnswersNewMemory(t *testing.T) {
	one, _ := name.Parse("a.b.c.")
	two, _ := name.Parse("a.b.c.")
	overwrite(one)
	if !slices.Equal(two, []string{"a", "b", "c"}) {
		t.Errorf("answers share memory: %q", two)
	}
}

func TestGreatArguments(t *testing.T) {
	big := times(2000, 2000)
	if name.Sound(big) || name.Size(big) != 1+2000*2001 || !name.Equal(big, name.Lower(big)) || name.Cmp(big, big) != 0 {
		t.Error("a great name")
	}
	if text := name.Text(big); len(text) != 2000*2001 {
		t.Errorf("its text has %d bytes", len(text))
	}
	for _, s := range []string{
		strings.Repeat("a", 1<<20), strings.Repeat(".", 1<<20), strings.Repeat("a.", 1<<20), strings.Repeat("\\", 1<<20),
		strings.Repeat("\\065", 1<<20), string(bytes.Repeat([]byte{0}, 1<<20)),
	} {
		if n, ok := name.Parse(s); ok || n != nil {
			t.Errorf("Parse of %d bytes, %q..: %d labels, %v", len(s), s[:4], len(n), ok)
		}
	}
}
