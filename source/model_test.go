package source

import (
	"math"
	"math/rand"
	"slices"
	"testing"

	"watchglass/api"
)

// model is what the chapter says of a source, word by word.
type model struct {
	b      []byte
	left   []int // the numbers of the script that are not used up
	fault  int
	reads  int
	script []int
}

func newModel(b []byte, script []int, fault int) *model {
	return &model{b: b, left: script, fault: fault, script: script}
}

// can tells whether the byte at that index can be read.
func (m *model) can(i int) bool {
	if m.fault < 0 || m.fault >= len(m.b) {
		return true
	}
	return i < m.fault
}

// read takes bytes one by one, and stops at the first reason to stop.
func (m *model) read(at, most int) ([]byte, api.Errno) {
	if at < 0 || most < 1 {
		return nil, api.ErrArg
	}
	if at >= len(m.b) {
		return nil, api.ErrEnd
	}
	if !m.can(at) {
		return nil, api.ErrFault
	}
	lets := len(m.b)
	if len(m.left) > 0 {
		if lets = m.left[0]; lets < 1 {
			lets = 1
		}
		m.left = m.left[1:]
	}
	m.reads++
	out := []byte{}
	for i := at; i < len(m.b) && m.can(i) && len(out) < most && len(out) < lets; i++ {
		out = append(out, m.b[i])
	}
	return out, api.OK
}

// readsLikeModel fails if a Read, Len or Reads answers another thing than the words of the promise, and tells the error that Read answers.
func readsLikeModel(t *testing.T, s *Source, m *model, at, most int) api.Errno {
	t.Helper()
	got, no := s.Read(at, most)
	want, wantNo := m.read(at, most)
	if string(got) != string(want) || no != wantNo || s.Len() != len(m.b) || s.Reads() != m.reads {
		t.Errorf("%q, script %v, fault %d: Read(%d, %d) = %q, %v, Len %d, Reads %d, want %q, %v, Reads %d",
			m.b, m.script, m.fault, at, most, got, no, s.Len(), s.Reads(), want, wantNo, m.reads)
	}
	return no
}

// lists are all lists of up to so many of those numbers.
func lists(of []int, most int) [][]int {
	out := [][]int{nil}
	for from := 0; most > 0; most-- {
		to := len(out)
		for ; from < to; from++ {
			for _, x := range of {
				out = append(out, append(slices.Clone(out[from]), x))
			}
		}
	}
	return out
}

// P11.1: every Read of every short source, whatever its fault is, as the first, the second and the third one.
func TestShortSources(t *testing.T) {
	of := []int{math.MinInt, -1, 0, 1, 2, 3, 4, math.MaxInt}
	for n := range 5 {
		b := []byte("abcd")[:n]
		for _, fault := range of {
			for _, script := range lists([]int{0, 1, 2, 3}, 2) {
				for _, at := range of {
					for _, most := range of {
						s, m := New(b, script, fault), newModel(b, script, fault)
						readsLikeModel(t, s, m, at, most)
						readsLikeModel(t, s, m, at, most)
						readsLikeModel(t, s, m, 0, math.MaxInt)
					}
				}
			}
		}
	}
}

// P11.1: all short rows of Reads, those that return no bytes among them, use up the script as the promise says.
func TestShortRows(t *testing.T) {
	calls := [][2]int{{0, 9}, {1, 2}, {2, 1}, {-1, 1}, {0, 0}, {3, 1}, {4, 1}}
	for _, script := range lists([]int{-1, 1, 2, 3, 9}, 3) {
		for _, row := range lists([]int{0, 1, 2, 3, 4, 5, 6}, 4) {
			s, m := New([]byte("abcd"), script, 3), newModel([]byte("abcd"), script, 3)
			for _, i := range row {
				readsLikeModel(t, s, m, calls[i][0], calls[i][1])
			}
			if t.Failed() {
				return
			}
		}
	}
}

// randomNumbers are up to that many numbers, most of them small, and now and then one at an end of int.
func randomNumbers(r *rand.Rand, most int) []int {
	l := []int{}
	for range r.Intn(most + 1) {
		switch r.Intn(10) {
		case 0:
			l = append(l, math.MaxInt-r.Intn(2))
		case 1:
			l = append(l, math.MinInt+r.Intn(2))
		default:
			l = append(l, r.Intn(20)-3)
		}
	}
	return l
}

// P11.1: random rows of Reads of random sources.
func TestRandomSources(t *testing.T) {
	r := rand.New(rand.NewSource(11))
	seen := map[api.Errno]int{}
	for range 5000 {
		b := make([]byte, r.Intn(60))
		r.Read(b)
		script, fault := randomNumbers(r, 30), r.Intn(100)-20
		s, m := New(b, script, fault), newModel(b, script, fault)
		for range r.Intn(60) {
			at, most := r.Intn(len(b)+5)-2, r.Intn(22)-1
			if l := randomNumbers(r, 1); len(l) > 0 && r.Intn(8) == 0 {
				at = l[0]
			}
			if l := randomNumbers(r, 1); len(l) > 0 && r.Intn(8) == 0 {
				most = l[0]
			}
			seen[readsLikeModel(t, s, m, at, most)]++
		}
	}
	for _, no := range []api.Errno{api.OK, api.ErrArg, api.ErrEnd, api.ErrFault} {
		if seen[no] < 1000 {
			t.Error(no, seen[no])
		}
	}
}
