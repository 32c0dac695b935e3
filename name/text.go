package name

import (
	"strings"
)

// The bytes that stand in a text as they are; the others are told by number.
const (
	firstPlain = 33
	lastPlain  = 126
)

// Text answers n as text, with a point behind each label.
func Text(n []string) string {
	if len(n) == 0 {
		return "."
	}
	var out strings.Builder
	for _, label := range n {
		for i := range len(label) {
			writeChar(&out, label[i])
		}
		out.WriteByte('.')
	}
	return out.String()
}

// Parse answers the sound name that s tells, and whether s tells one.
func Parse(s string) ([]string, bool) {
	if s == "." {
		return nil, true
	}
	var n []string
	for s != "" {
		label, rest, ok := cutLabel(s)
		if !ok {
			return nil, false
		}
		n = append(n, label)
		// Asked at each label, not at the end: so n stays short whatever s is.
		if !Sound(n) {
			return nil, false
		}
		s = rest
	}
	return n, len(n) > 0
}

func writeChar(out *strings.Builder, c byte) {
	switch {
	case c == '.' || c == '\\':
		out.WriteByte('\\')
		out.WriteByte(c)
	case plain(c):
		out.WriteByte(c)
	default:
		out.WriteByte('\\')
		out.WriteByte('0' + c/100)
		out.WriteByte('0' + c/10%10)
		out.WriteByte('0' + c%10)
	}
}

// cutLabel answers the first label that s tells, and s behind its point.
func cutLabel(s string) (label, rest string, ok bool) {
	var out []byte
	for s != "" {
		if s[0] == '.' {
			return string(out), s[1:], true
		}
		c, size := readChar(s)
		if size == 0 {
			return "", "", false
		}
		out = append(out, c)
		s = s[size:]
	}
	return string(out), "", true
}

// readChar answers the byte of a label that s, which is not empty, begins
// with, and how many bytes of s tell it: 0, if they tell none.
func readChar(s string) (c byte, size int) {
	if s[0] != '\\' {
		if !plain(s[0]) {
			return 0, 0
		}
		return s[0], 1
	}
	if len(s) < 2 {
		return 0, 0
	}
	if !digit(s[1]) {
		return s[1], 2
	}
	return readNumber(s)
}

// readNumber reads a \ and three digits as readChar does.
func readNumber(s string) (c byte, size int) {
	if len(s) < 4 || !digit(s[1]) || !digit(s[2]) || !digit(s[3]) {
		return 0, 0
	}
	v := int(s[1]-'0')*100 + int(s[2]-'0')*10 + int(s[3]-'0')
	if v > 255 {
		return 0, 0
	}
	return byte(v), 4
}

func plain(c byte) bool {
	return c >= firstPlain && c <= lastPlain
}

func digit(c byte) bool {
	return c >= '0' && c <= '9'
}
