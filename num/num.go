// Package num is layer 1: see shared/doc/01-num.md.
package num

import "mudlark/api"

// The fewest and the most bytes of a field that is put.
const (
	narrowest = 2
	widest    = 32
)

// Octal is a field's number of digits, Binary of bits, Parse of either; false: it is none.
func Octal(b []byte) (int, bool) {
	rest := b[blanks(b):]
	count := digits(rest)
	if !isFilling(rest[count:]) {
		return 0, false
	}
	n := 0
	for i := range count {
		digit := int(rest[i] - '0')
		// Compared ahead of the shift: behind it the number may have gone round.
		if n > (api.MaxNum-digit)>>3 {
			return 0, false
		}
		n = n<<3 | digit
	}
	return n, true
}

func Binary(b []byte) (int, bool) {
	if !isMarked(b) {
		return 0, false
	}
	// The mark goes out to the left, and the bit behind it comes back as the sign.
	n := int(int8(b[0]<<1) >> 1)
	for _, c := range b[1:] {
		// No byte brings back a number that is beyond this; one within it does not go round.
		if n > api.MaxNum>>8 || n < -api.MaxNum>>8 {
			return 0, false
		}
		n = n<<8 | int(c)
	}
	// A byte only adds: the last one may lead above the greatest number, never below the least.
	if n > api.MaxNum {
		return 0, false
	}
	return n, true
}

func Parse(b []byte) (int, bool) {
	if isMarked(b) {
		return Binary(b)
	}
	return Octal(b)
}

// PutOctal and PutBinary are the ways back, so wide; Put is the first of both that may be.
func PutOctal(n, wide int) ([]byte, bool) {
	if !isWidth(wide) || n < 0 || n > api.MaxNum {
		return nil, false
	}
	b := make([]byte, wide)
	for i := range wide - 1 {
		b[wide-2-i] = '0' + byte(n&7)
		n >>= 3
	}
	if n != 0 {
		return nil, false
	}
	return b, true
}

func PutBinary(n, wide int) ([]byte, bool) {
	if !isWidth(wide) {
		return nil, false
	}
	b := make([]byte, wide)
	rest := n
	for i := range wide {
		b[wide-1-i] = byte(rest)
		rest >>= 8
	}
	b[0] |= 0x80
	// Bits that found no room, the one under the mark among them, are missing on the way back.
	if back, ok := Binary(b); !ok || back != n {
		return nil, false
	}
	return b, true
}

func Put(n, wide int) ([]byte, bool) {
	if b, ok := PutOctal(n, wide); ok {
		return b, true
	}
	return PutBinary(n, wide)
}

// blanks is how many blanks b begins with.
func blanks(b []byte) int {
	for i, c := range b {
		if c != ' ' {
			return i
		}
	}
	return len(b)
}

// digits is how many octal digits b begins with.
func digits(b []byte) int {
	for i, c := range b {
		if c < '0' || c > '7' {
			return i
		}
	}
	return len(b)
}

// isFilling says whether b is nothing but what may stand behind the digits.
func isFilling(b []byte) bool {
	for _, c := range b {
		if c != ' ' && c != 0 {
			return false
		}
	}
	return true
}

// isMarked says whether b begins as a number of bits does.
func isMarked(b []byte) bool {
	return len(b) > 0 && b[0] >= 0x80
}

func isWidth(wide int) bool {
	return wide >= narrowest && wide <= widest
}
