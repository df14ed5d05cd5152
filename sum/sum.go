// Package sum: sums of bytes: see ../../shared/doc/01-sum.md.
package sum

import "bytes"

const (
	mod  = 65521 // the greatest prime below 65536
	size = 4     // bytes of a sum

	// From a and c below mod, so many bytes of 255 leave c below 2^32: the
	// remainders need not be taken more often.
	block = 5552
)

// Sum returns the checksum of b.
func Sum(b []byte) uint32 {
	return More(1, b)
}

// More returns the checksum of the bytes behind sum, followed by b.
func More(sum uint32, b []byte) uint32 {
	a, c := sum%65536%mod, sum/65536%mod
	for len(b) > 0 {
		n := min(len(b), block)
		for _, x := range b[:n] {
			a += uint32(x)
			c += a
		}
		a, c = a%mod, c%mod
		b = b[n:]
	}
	return c*65536 + a
}

// Put returns b followed by its checksum.
func Put(b []byte) []byte {
	out := make([]byte, 0, len(b)+size)
	out = append(out, b...)
	s := Sum(b)
	return append(out, byte(s>>24), byte(s>>16), byte(s>>8), byte(s))
}

// Right returns what Put was given to write b, if there is such a thing.
func Right(b []byte) ([]byte, bool) {
	n := len(b) - size
	if n < 0 || number(b[n:]) != Sum(b[:n]) {
		return nil, false
	}
	return bytes.Clone(b[:n]), true
}

// number reads the four bytes of a sum.
func number(b []byte) uint32 {
	return uint32(b[0])<<24 | uint32(b[1])<<16 | uint32(b[2])<<8 | uint32(b[3])
}
