package name_test

import (
	"slices"
	"strings"
	"testing"

	"gazetteer/name"
)

func TestText(t *testing.T) {
	cases := []struct {
		n    []string
		want string
	}{
		{nil, "."},
		{[]string{}, "."},
		{[]string{"www", "a.b"}, "www.a\\.b."},
		{[]string{"WWW", "Example"}, "WWW.Example."},
		{[]string{"."}, "\\.."},
		{[]string{"\\"}, "\\\\."},
		{[]string{"\\065"}, "\\\\065."},
		{[]string{"\x00"}, "\\000."},
		{[]string{"\t\n"}, "\\009\\010."},
		{[]string{" !"}, "\\032!."},
		{[]string{"~\x7f"}, "~\\127."},
		{[]string{"\x80\xc8\xff"}, "\\128\\200\\255."},
		{[]string{"\xc3\xa4"}, "\\195\\164."},
		{[]string{"\"$();@*-_"}, "\"$();@*-_."},
		{[]string{""}, "."},
		{[]string{"", "a", ""}, ".a.."},
		{[]string{label(300)}, label(300) + "."},
		{times(200, 1), strings.Repeat("a.", 200)},
	}
	for _, c := range cases {
		if got := name.Text(c.n); got != c.want {
			t.Errorf("Text(%q) is %q, not %q", c.n, got, c.want)
		}
	}
}

// number has the three digits of a byte, reckoned otherwise than the package does.
func number(c int) string {
	const digits = "0123456789"
	i := 0
	for a := range digits {
		for b := range digits {
			for d := range digits {
				if i == c {
					return digits[a:a+1] + digits[b:b+1] + digits[d:d+1]
				}
				i++
			}
		}
	}
	return ""
}

// told has the text of one byte in a label.
func told(c byte) string {
	switch {
	case c == '.', c == '\\':
		return "\\" + string([]byte{c})
	case c < 33, c > 126:
		return "\\" + number(int(c))
	}
	return string([]byte{c})
}

func TestTextOfEachByte(t *testing.T) {
	for i := range 256 {
		c := byte(i)
		n := []string{"x" + string([]byte{c}) + "0", string([]byte{c})}
		want := "x" + told(c) + "0." + told(c) + "."
		if got := name.Text(n); got != want {
			t.Errorf("Text(%q) is %q, not %q", n, got, want)
		}
		if got, ok := name.Parse(want); !ok || !slices.Equal(got, n) {
			t.Errorf("Parse(%q) is %q, %v", want, got, ok)
		}
	}
}

func TestParse(t *testing.T) {
	cases := []struct {
		s    string
		want []string
	}{
		{".", nil},
		{"a", []string{"a"}},
		{"a.", []string{"a"}},
		{"a.b", []string{"a", "b"}},
		{"a.b.", []string{"a", "b"}},
		{"WWW.Example", []string{"WWW", "Example"}},
		{"\\.", []string{"."}},
		{"\\..", []string{"."}},
		{"\\.\\.", []string{".."}},
		{"a\\.", []string{"a."}},
		{"\\\\", []string{"\\"}},
		{"\\\\.a", []string{"\\", "a"}},
		{"\\\\065", []string{"\\065"}},
		{"\\065", []string{"A"}},
		{"\\0650", []string{"A0"}},
		{"\\046.", []string{"."}},
		{"\\092.", []string{"\\"}},
		{"\\000\\255", []string{"\x00\xff"}},
		{"\\249", []string{"\xf9"}},
		{"\\199", []string{"\xc7"}},
		{"a\\ b", []string{"a b"}},
		{"\\a\\Z\\-", []string{"aZ-"}},
		{"\"$();@*-_!~", []string{"\"$();@*-_!~"}},
		{"1.2.3", []string{"1", "2", "3"}},
		{label(63), sized(63)},
		{strings.Repeat("\\097", 63), sized(63)},
		{strings.Repeat("\\a", 63) + ".a.", sized(63, 1)},
		{strings.Repeat("a.", 127), times(127, 1)},
		{strings.Repeat("a.", 126) + "a", times(127, 1)},
		{name.Text(sized(63, 63, 63, 61)), sized(63, 63, 63, 61)},
		{strings.Repeat(strings.Repeat("\\255", 63)+".", 3) + "a", []string{strings.Repeat("\xff", 63), strings.Repeat("\xff", 63), strings.Repeat("\xff", 63), "a"}},
	}
	for _, c := range cases {
		if got, ok := name.Parse(c.s); !ok || !slices.Equal(got, c.want) {
			t.Errorf("Parse(%q) is %q, %v, not %q", c.s, got, ok, c.want)
		}
	}
}

func TestParseOfNoName(t *testing.T) {
	for _, s := range []string{
		"", "..", "...", ".a", ".a.", "a..", "a..b", "a.b..", "..a", "\\...", "a...",
		"\\", "a\\", "a.\\", "a.b\\", "\\\\\\",
		"\\0", "\\00", "\\1a", "\\12", "\\12a", "\\1.2", "\\12.", "\\0.", "a.\\25", "\\06 5", "\\0x1", "\\-01.\\01",
		"\\256", "\\256.", "\\260", "\\300.", "\\999", "a\\1000\\256", "\\00\x3a", "\\0\x2f0",
		" ", "a b", "a ", " a", "a.\t", "\x00", "\n", "a\n", "\x1f", "\x20", "\x7f", "\x80", "\xff", "\u00e4", "a.\xff.",
		label(64), label(64) + ".", "a." + label(64), label(64) + ".a", label(63) + "\\a", label(63) + "\\000", strings.Repeat("\\065", 64),
		strings.Repeat("a.", 128), strings.Repeat("a.", 127) + "a", strings.Repeat("a.", 126) + "ab",
		name.Text(sized(63, 63, 63, 62)), name.Text(sized(62, 63, 63, 63)), name.Text(sized(63, 63, 63, 63)),
		label(63) + "." + label(63) + "." + label(63) + "." + label(62),
		strings.Repeat("a.", 127) + ".", strings.Repeat("a.", 127) + "\\",
	} {
		if got, ok := name.Parse(s); ok || len(got) != 0 {
			t.Errorf("Parse(%q) is %q, %v", s, got, ok)
		}
	}
}

// A \ takes any byte behind it that is no digit; a byte alone must be plain.
func TestParseOfEachByte(t *testing.T) {
	for i := range 256 {
		c := string([]byte{byte(i)})
		isDigit := strings.Contains("0123456789", c)
		got, ok := name.Parse("x\\" + c)
		if ok == isDigit || ok && !slices.Equal(got, []string{"x" + c}) {
			t.Errorf("Parse of x, \\ and byte %d is %q, %v", i, got, ok)
		}
		want := i >= 33 && i <= 126 && c != "\\"
		wantName := []string{"x" + c + "x"}
		if c == "." {
			wantName = []string{"x", "x"}
		}
		// Behind the byte stands an x: so \ would take it, as any byte that is no digit.
		if c == "\\" {
			want, wantName = true, []string{"xx"}
		}
		got, ok = name.Parse("x" + c + "x")
		if ok != want || ok && !slices.Equal(got, wantName) {
			t.Errorf("Parse of x, byte %d and x is %q, %v", i, got, ok)
		}
	}
}

func TestParseOfEachNumber(t *testing.T) {
	for i := range 1000 {
		s := "\\" + number(i)
		got, ok := name.Parse("a." + s + "7.")
		if ok != (i <= 255) || ok && !slices.Equal(got, []string{"a", string([]byte{byte(i)}) + "7"}) {
			t.Errorf("Parse of a, %s and 7 is %q, %v", s, got, ok)
		}
	}
}

// Behind a \ and a digit stand two digits, and nothing else.
func TestParseOfEachByteInANumber(t *testing.T) {
	for i := range 256 {
		c := string([]byte{byte(i)})
		want := strings.Contains("0123456789", c)
		for _, s := range []string{"\\0" + c + "0", "\\00" + c, "\\1" + c + "1"} {
			if got, ok := name.Parse(s); ok != want {
				t.Errorf("Parse(%q) is %q, %v", s, got, ok)
			}
		}
	}
}

// All short texts of some bytes are held against a reader that works otherwise.
func TestParseOfShortTexts(t *testing.T) {
	texts := []string{""}
	for first := 0; len(texts[first]) < 5; first++ {
		for _, c := range []string{"a", ".", "\\", "0", "2", " "} {
			texts = append(texts, texts[first]+c)
		}
	}
	parts := charParts()
	for _, s := range texts {
		n, ok := name.Parse(s)
		if want, taken := slowly(s, parts); ok != taken || !slices.Equal(n, want) {
			t.Errorf("Parse(%q) is %q, %v, not %q, %v", s, n, ok, want, taken)
		}
		if !ok {
			continue
		}
		if again, ok := name.Parse(name.Text(n)); !ok || !slices.Equal(again, n) || !name.Sound(n) {
			t.Errorf("Parse of Text of %q is %q, %v", n, again, ok)
		}
	}
}

// charParts has what may tell a label's byte in texts of a . \ 0 2 and space.
func charParts() map[string]string {
	parts := map[string]string{"a": "a", "0": "0", "2": "2", "\\a": "a", "\\.": ".", "\\\\": "\\", "\\ ": " "}
	for c := range 256 {
		parts["\\"+number(c)] = string([]byte{byte(c)})
	}
	return parts
}

// slowly reads a text too short for a name that is too long, part by part; no
// part begins another one.
func slowly(s string, parts map[string]string) ([]string, bool) {
	if s == "." {
		return nil, true
	}
	pieces := []string{""}
	for s != "" {
		if s[0] == '.' {
			pieces, s = append(pieces, ""), s[1:]
			continue
		}
		size := 0
		for part := range parts {
			if strings.HasPrefix(s, part) {
				size = len(part)
			}
		}
		if size == 0 {
			return nil, false
		}
		pieces[len(pieces)-1] += parts[s[:size]]
		s = s[size:]
	}
	if len(pieces) > 1 && pieces[len(pieces)-1] == "" {
		pieces = pieces[:len(pieces)-1]
	}
	if slices.Contains(pieces, "") {
		return nil, false
	}
	return pieces, true
}
