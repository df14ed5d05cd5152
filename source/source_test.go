package source

import (
	"bytes"
	"math"
	"slices"
	"testing"

	"watchglass/api"
)

// edges are numbers around 0 and around four bytes, and the ends of int.
var edges = []int{math.MinInt, math.MinInt + 1, -1 << 32, -2, -1, 0, 1, 2, 3, 4, 5, 6, 1 << 32, math.MaxInt - 1, math.MaxInt}

// reads fails unless a Read answers these bytes, and uses up one number of the script.
func reads(t *testing.T, s *Source, at, most int, want string) {
	t.Helper()
	before := s.Reads()
	if b, no := s.Read(at, most); string(b) != want || no != api.OK || s.Reads() != before+1 {
		t.Errorf("Read(%d, %d) = %q, %v, want %q", at, most, b, no, want)
	}
}

// refuses fails unless a Read answers that error, nothing beside it, and is not counted.
func refuses(t *testing.T, s *Source, at, most int, want api.Errno) {
	t.Helper()
	before := s.Reads()
	if b, no := s.Read(at, most); len(b) > 0 || no != want || s.Reads() != before {
		t.Errorf("Read(%d, %d) = %q, %v, want %v", at, most, b, no, want)
	}
}

// all reads a source to its end or its fault, most bytes at a time, and returns what it got, the error, and the number of Reads.
func all(t *testing.T, s *Source, most int) ([]byte, api.Errno, int) {
	t.Helper()
	out := []byte{}
	for n := 0; ; n++ {
		b, no := s.Read(len(out), most)
		if no != api.OK {
			return out, no, n
		}
		if len(b) == 0 || len(b) > most {
			t.Fatal(len(b), most)
		}
		out = append(out, b...)
	}
}

// P11.1: the chapter's example.
func TestKnown(t *testing.T) {
	s := New([]byte("abcd"), []int{3}, -1)
	reads(t, s, 0, 4, "abc")
	reads(t, s, 3, 4, "d")
	refuses(t, s, 4, 1, api.ErrEnd)
	if s.Len() != 4 || s.Reads() != 2 {
		t.Error(s.Len(), s.Reads())
	}
}

// P11.1: a fault that is negative or not less than the length is none, and Len counts the bytes that can't be read.
func TestFaults(t *testing.T) {
	for _, fault := range edges {
		s := New([]byte("abcd"), nil, fault)
		n := 4
		if fault >= 0 && fault < 4 {
			n = fault
		}
		for at := range 4 {
			if at < n {
				reads(t, s, at, 9, "abcd"[at:n])
			} else {
				refuses(t, s, at, 9, api.ErrFault)
			}
		}
		refuses(t, s, 4, 9, api.ErrEnd)
		if s.Len() != 4 || s.Reads() != n {
			t.Error(fault, s.Len(), s.Reads())
		}
	}
}

// P11.1: no bytes, whatever the fault is.
func TestNoBytes(t *testing.T) {
	for _, b := range [][]byte{nil, {}} {
		for _, fault := range edges {
			s := New(b, []int{1}, fault)
			refuses(t, s, 0, 1, api.ErrEnd)
			refuses(t, s, 0, 0, api.ErrArg)
			refuses(t, s, -1, 1, api.ErrArg)
			refuses(t, s, 1, 1, api.ErrEnd)
			if s.Len() != 0 || s.Reads() != 0 {
				t.Error(fault, s.Len(), s.Reads())
			}
		}
	}
}

// P11.1: of several errors the one that the promise lists first.
func TestErrors(t *testing.T) {
	s := New([]byte("abcd"), nil, 2)
	for _, at := range edges {
		for _, most := range edges {
			switch {
			case at < 0 || most < 1:
				refuses(t, s, at, most, api.ErrArg)
			case at >= 4:
				refuses(t, s, at, most, api.ErrEnd)
			case at >= 2:
				refuses(t, s, at, most, api.ErrFault)
			default:
				reads(t, s, at, most, "ab"[at:min(2, at+min(most, 2))])
			}
		}
	}
}

// P11.1: each of the four limits is the least one, at their edges.
func TestLimits(t *testing.T) {
	for _, c := range []struct {
		lets, fault, at, most int
		want                  string
	}{
		{9, -1, 1, 1, "b"},
		{9, -1, 1, 2, "bc"},
		{9, -1, 1, 3, "bcd"},
		{9, -1, 1, 4, "bcd"},
		{9, 2, 1, 3, "b"},
		{9, 3, 1, 3, "bc"},
		{9, 3, 1, 1, "b"},
		{1, 3, 1, 3, "b"},
		{2, -1, 1, 3, "bc"},
		{3, -1, 1, 3, "bcd"},
		{0, -1, 1, 3, "b"},
		{-1, -1, 1, 3, "b"},
		{math.MinInt, -1, 1, 3, "b"},
		{math.MaxInt, -1, 1, math.MaxInt, "bcd"},
		{math.MaxInt, 3, 2, math.MaxInt, "c"},
		{math.MaxInt, math.MaxInt, 3, math.MaxInt, "d"},
	} {
		s := New([]byte("abcd"), []int{c.lets}, c.fault)
		reads(t, s, c.at, c.most, c.want)
		if s.Reads() != 1 {
			t.Error(c, s.Reads())
		}
	}
}

// P11.1: a Read that returns bytes uses up one number of the script, whether that number was the least or not.
func TestScriptUsed(t *testing.T) {
	s := New([]byte("abcd"), []int{9, 1, 0, 3, 2}, -1)
	reads(t, s, 0, 2, "ab")
	reads(t, s, 0, 4, "a")
	reads(t, s, 3, 1, "d")
	reads(t, s, 1, 1, "b")
	reads(t, s, 1, 9, "bc")
	reads(t, s, 0, 9, "abcd")
	reads(t, s, 0, 9, "abcd")
}

// P11.1: a Read that returns no bytes uses up none, whatever its error is, ahead of every number and behind the last.
func TestScriptKept(t *testing.T) {
	s := New([]byte("abcd"), []int{2, 1}, 3)
	for _, want := range []string{"ab", "a", "abc", "abc"} {
		for range 3 {
			refuses(t, s, -1, 1, api.ErrArg)
			refuses(t, s, 0, 0, api.ErrArg)
			refuses(t, s, 4, 1, api.ErrEnd)
			refuses(t, s, 3, 1, api.ErrFault)
		}
		reads(t, s, 0, 9, want)
	}
}

// P11.1: Reads may go back, and leap; the script does not ask where they are.
func TestAnyOrder(t *testing.T) {
	s := New([]byte("abcdef"), []int{2, 3, 1}, -1)
	reads(t, s, 4, 9, "ef")
	reads(t, s, 0, 9, "abc")
	reads(t, s, 5, 9, "f")
	reads(t, s, 2, 3, "cde")
	reads(t, s, 2, 3, "cde")
}

// P11.1: every value of a byte is told as it is.
func TestEveryByte(t *testing.T) {
	b := []byte{}
	for x := range 256 {
		b = append(b, byte(x))
	}
	s := New(b, nil, -1)
	for x := range 256 {
		reads(t, s, x, 1, string(b[x:x+1]))
	}
	reads(t, s, 0, 256, string(b))
}

// P11.2: successive Reads return all that can be read, and then tell why there is no more, whatever the script, the fault and most are.
func TestAllRead(t *testing.T) {
	b := []byte("watchglass, a monitor with many heads")
	scripts := [][]int{nil, {}, {1}, {0, 0, 0, 0}, {100}, {5, -3, 7, 2}, {math.MaxInt, math.MinInt, math.MaxInt}, slices.Repeat([]int{1}, 100), slices.Repeat([]int{1, 2, 3}, 5)}
	for i, script := range scripts {
		for fault := -1; fault <= len(b)+1; fault++ {
			for _, most := range []int{1, 2, 7, len(b) - 1, len(b), len(b) + 1, math.MaxInt} {
				n, want := len(b), api.ErrEnd
				if fault >= 0 && fault < n {
					n, want = fault, api.ErrFault
				}
				s := New(b, script, fault)
				got, no, count := all(t, s, most)
				if !bytes.Equal(got, b[:n]) || no != want || s.Reads() != count || s.Len() != len(b) {
					t.Error(i, fault, most, string(got), no, s.Reads(), count)
				}
			}
		}
	}
}

// P11.2: a long source with a long script.
func TestLong(t *testing.T) {
	b := make([]byte, 1<<20)
	for i := range b {
		b[i] = byte(i * i >> 3)
	}
	for _, most := range []int{100, 4096, math.MaxInt} {
		s := New(b, slices.Repeat([]int{1, 300, 0, 77}, 1000), len(b)-1)
		got, no, count := all(t, s, most)
		if !bytes.Equal(got, b[:len(b)-1]) || no != api.ErrFault || s.Reads() != count || s.Len() != 1<<20 {
			t.Error(most, len(got), no, count, s.Reads())
		}
	}
}

// R2: what New is given stays as it is, and a source stays when that is changed afterwards.
func TestOwnMemory(t *testing.T) {
	whole, numbers := []byte("abcdefgh"), []int{1, 2, 7, 7}
	s := New(whole[:4], numbers[:2], 3)
	b, _ := s.Read(0, 4)
	for i := range b[:cap(b)] {
		b[:cap(b)][i] = 'x'
	}
	if string(whole) != "abcdefgh" || !slices.Equal(numbers, []int{1, 2, 7, 7}) {
		t.Error(string(whole), numbers)
	}
	clear(whole)
	clear(numbers) // a 0 counts as 1: the number that is left must be greater
	reads(t, s, 0, 4, "ab")
	reads(t, s, 0, 4, "abc")
}

// R2: what a Read returned belongs to the caller.
func TestResultsApart(t *testing.T) {
	s := New([]byte("abcd"), nil, -1)
	first, _ := s.Read(0, 2)
	second, _ := s.Read(0, 2)
	clear(first[:cap(first)])
	if string(second) != "ab" {
		t.Error(second)
	}
	_ = append(second, "zz"...)
	reads(t, s, 0, 4, "abcd")
}

// R8: sources with the same bytes and script are apart from each other.
func TestSourcesApart(t *testing.T) {
	b, script := []byte("abcd"), []int{1, 2, 3}
	one, other := New(b, script, -1), New(b, script, 2)
	for i, want := range []string{"a", "ab", "abc", "abcd"} {
		reads(t, one, 0, 9, want)
		if other.Reads() != 0 {
			t.Error(i, other.Reads())
		}
	}
	reads(t, other, 0, 9, "a")
	reads(t, other, 0, 9, "ab")
	reads(t, other, 0, 9, "ab")
	refuses(t, other, 2, 9, api.ErrFault)
	reads(t, one, 2, 9, "cd")
}

// R3: a source that is none answers nothing, and ErrArg; one that New did not make has no bytes.
func TestNone(t *testing.T) {
	var none *Source
	for _, at := range edges {
		for _, most := range edges {
			refuses(t, none, at, most, api.ErrArg)
		}
	}
	if none.Len() != 0 || none.Reads() != 0 {
		t.Error(none.Len(), none.Reads())
	}
	empty := &Source{}
	refuses(t, empty, 0, 1, api.ErrEnd)
	refuses(t, empty, 0, 0, api.ErrArg)
	if empty.Len() != 0 || empty.Reads() != 0 {
		t.Error(empty.Len(), empty.Reads())
	}
}
