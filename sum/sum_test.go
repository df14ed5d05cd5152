package sum

import (
	"bytes"
	"hash/adler32"
	"math"
	"slices"
	"testing"
)

// byRule follows P1.1 to the letter: a remainder at every byte.
func byRule(a, c uint64, b []byte) uint32 {
	a, c = a%65521, c%65521
	for _, x := range b {
		a = (a + uint64(x)) % 65521
		c = (c + a) % 65521
	}
	return uint32(c*65536 + a)
}

// mixed is n bytes without a short period.
func mixed(n int, seed uint32) []byte {
	out := make([]byte, n)
	for i := range out {
		seed = seed*1664525 + 1013904223
		out[i] = byte(seed >> 24)
	}
	return out
}

// lengths lie on both sides of where remainders are taken.
var lengths = []int{0, 1, 2, 3, 4, 5, 255, 256, 257, 5551, 5552, 5553, 11103, 11104, 11105, 65520, 65521, 65522, 200000}

// P1.1: sums that are known.
func TestSumKnown(t *testing.T) {
	known := map[string]uint32{
		"":          1,
		"\x00":      1<<16 | 1,
		"\x00\x00":  2<<16 | 1,
		"a":         0x00620062,
		"abc":       38600999,
		"\xff":      256<<16 | 256,
		"Wikipedia": 0x11e60398,
	}
	for s, want := range known {
		if got := Sum([]byte(s)); got != want {
			t.Errorf("Sum(%q) = %d, want %d", s, got, want)
		}
	}
	if got := Sum(nil); got != 1 {
		t.Errorf("Sum(nil) = %d", got)
	}
}

// P1.1: sums of many bytes, the greatest ones among them.
func TestSumLong(t *testing.T) {
	for _, n := range lengths {
		for _, b := range [][]byte{make([]byte, n), bytes.Repeat([]byte{255}, n), mixed(n, uint32(n))} {
			got := Sum(b)
			if want := byRule(1, 0, b); got != want {
				t.Errorf("%d bytes: %d, want %d", n, got, want)
			}
			if want := adler32.Checksum(b); got != want {
				t.Errorf("%d bytes: %d, Adler-32 is %d", n, got, want)
			}
		}
	}
}

// P1.1: More begins with what it is given, whatever that is.
func TestMoreBegins(t *testing.T) {
	edges := []uint32{0, 1, 2, 255, 65519, 65520, 65521, 65522, 65534, 65535}
	for _, a := range edges {
		for _, c := range edges {
			for _, n := range []int{0, 1, 2, 5552, 5553, 12000} {
				for _, b := range [][]byte{make([]byte, n), bytes.Repeat([]byte{255}, n), mixed(n, a^c)} {
					want := byRule(uint64(a), uint64(c), b)
					if got := More(c<<16|a, b); got != want {
						t.Fatalf("More(%d<<16|%d, %d bytes) = %d, want %d", c, a, n, got, want)
					}
				}
			}
		}
	}
	if got := More(math.MaxUint32, nil); got != 14<<16|14 {
		t.Errorf("More(all ones, nil) = %#x", got)
	}
}

// P1.2: the sum follows the bytes, most significant byte first.
func TestPut(t *testing.T) {
	known := map[string]string{
		"":    "\x00\x00\x00\x01",
		"abc": "abc\x02\x4d\x01\x27",
	}
	for s, want := range known {
		if got := Put([]byte(s)); string(got) != want {
			t.Errorf("Put(%q) = %q, want %q", s, got, want)
		}
	}
	if got := Put(nil); string(got) != "\x00\x00\x00\x01" {
		t.Errorf("Put(nil) = %q", got)
	}
}

// P1.2: Right takes what Put has written.
func TestRightOfPut(t *testing.T) {
	for _, n := range lengths {
		b := mixed(n, 7)
		got, ok := Right(Put(b))
		if !ok || !bytes.Equal(got, b) {
			t.Errorf("%d bytes: Right of Put answers %d bytes, %v", n, len(got), ok)
		}
	}
}

// refused fails unless Right says that b is wrong, and nothing beside it.
func refused(t *testing.T, b []byte) {
	t.Helper()
	if got, ok := Right(b); ok || len(got) > 0 {
		t.Errorf("Right(%q) = %q, %v", b, got, ok)
	}
}

// P1.2: Right takes nothing else.
func TestRightOfWrong(t *testing.T) {
	for n := range 4 {
		refused(t, make([]byte, n))
	}
	refused(t, nil)
	refused(t, []byte{1})
	refused(t, []byte{0, 0, 1})
	refused(t, []byte{1, 0, 0, 0})
	refused(t, []byte("abc\x27\x01\x4d\x02"))
	refused(t, []byte("\x02\x4d\x01\x27abc"))
	refused(t, []byte("abc"))
	// What is congruent to a sum modulo 65521 is not that sum.
	refused(t, []byte{0, 0, 0xff, 0xf2})
	refused(t, []byte{0xff, 0xf1, 0, 1})
	for n := range 12 {
		l := Put(mixed(n, 3))
		for k := range l {
			refused(t, l[:k])
		}
		refused(t, append(slices.Clone(l), 0))
	}
}

// P1.2: any other value of any byte is noticed, also in the sum itself.
func TestRightOfChanged(t *testing.T) {
	for _, n := range []int{0, 1, 5, 300} {
		l := Put(mixed(n, 11))
		for i, was := range l {
			for by := 1; by < 256; by += 1 + n/20 {
				l[i] = was ^ byte(by)
				refused(t, l)
			}
			l[i] = was
		}
	}
}

// P1.3: a sum can be continued part by part.
func TestPartByPart(t *testing.T) {
	b := mixed(20000, 5)
	want := Sum(b)
	for _, k := range []int{0, 1, 2, 5551, 5552, 5553, 9999, 19999, 20000} {
		if got := More(Sum(b[:k]), b[k:]); got != want {
			t.Errorf("cut at %d: %d, want %d", k, got, want)
		}
	}
	got := Sum(nil)
	for part := range slices.Chunk(b, 77) {
		got = More(got, part)
	}
	if got != want {
		t.Errorf("in parts of 77: %d, want %d", got, want)
	}
}

// P1.3: changing a byte, or exchanging two adjacent ones, changes the sum.
func TestChangesShow(t *testing.T) {
	b := mixed(6000, 9)
	want := Sum(b)
	for _, i := range []int{0, 1, 2, 3000, 5550, 5551, 5552, 5998, 5999} {
		was := b[i]
		for by := 1; by < 256; by++ {
			b[i] = was ^ byte(by)
			if Sum(b) == want {
				t.Errorf("byte %d from %d to %d: the same sum", i, was, b[i])
			}
		}
		b[i] = was
	}
	for i := range b[1:] {
		if b[i] == b[i+1] {
			continue
		}
		b[i], b[i+1] = b[i+1], b[i]
		if Sum(b) == want {
			t.Errorf("bytes %d and %d exchanged: the same sum", i, i+1)
		}
		b[i], b[i+1] = b[i+1], b[i]
	}
}

// R2: arguments stay as they are, and results are memory of their own.
func TestMemory(t *testing.T) {
	whole := []byte("abcdefghijkl")
	b := whole[:3]
	l := Put(b)
	Sum(b)
	More(9, b)
	if string(whole) != "abcdefghijkl" {
		t.Errorf("the argument became %q", whole)
	}
	l[0] = 'x'
	if whole[0] != 'a' {
		t.Error("Put shares memory with its argument")
	}
	l[0] = 'a'
	r, ok := Right(l)
	if !ok {
		t.Fatal("Right refuses what Put has written")
	}
	r[1] = 'x'
	_ = append(r, 'y', 'y', 'y', 'y')
	if string(l) != "abc\x02\x4d\x01\x27" {
		t.Errorf("Right shares memory with its argument: %q", l)
	}
}
