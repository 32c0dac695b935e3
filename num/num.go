// Package num writes and reads numbers as bytes, the highest byte first.
package num

import (
	"gazetteer/api"
)

// most is 7, not 8: so an int holds whatever is read without its sign.
const most = 7

// Put answers b with n behind it as size bytes, or b alone if n does not fit.
// The answer is new memory either way.
func Put(b []byte, n, size int) []byte {
	if !Fits(n, size) {
		return append([]byte(nil), b...)
	}
	out := make([]byte, len(b), len(b)+size)
	copy(out, b)
	for i := size - 1; i >= 0; i-- {
		out = append(out, byte(n>>(8*i)))
	}
	return out
}

// Get answers the number that the size bytes of b from at on are.
func Get(b []byte, at, size int) (int, api.Errno) {
	if !sized(size) || at < 0 {
		return 0, api.ErrArg
	}
	// Not at+size > len(b): the sum would go over at the greatest at.
	if at > len(b)-size {
		return 0, api.ErrShort
	}
	n := 0
	for _, x := range b[at : at+size] {
		n = n<<8 | int(x)
	}
	return n, api.OK
}

// Fits tells whether n can be written as size bytes.
func Fits(n, size int) bool {
	return sized(size) && n >= 0 && n>>(8*size) == 0
}

func sized(size int) bool {
	return size >= 1 && size <= most
}
