package bits

import (
	"math"
	"math/rand"
	"slices"
	"testing"

	"watchglass/api"
)

// numbers lie on both sides of the words' borders and of the limits.
var numbers = []int{math.MinInt, math.MinInt + 1, -4096, -65, -64, -63, -1, 0, 1, 2, 31, 32, 62, 63, 64, 65, 126, 127, 128, 129,
	191, 192, 255, 256, 4031, 4032, 4094, api.MaxBit, api.MaxBit + 1, 4160, 1 << 20, 1 << 62, math.MaxInt - 1, math.MaxInt}

// model is a set in the plain form that the promises are about.
type model map[int]bool

func modelOf(s []uint64) model {
	m := model{}
	for i, w := range s {
		for k := range 64 {
			if w&(1<<uint(k)) != 0 {
				m[64*i+k] = true
			}
		}
	}
	return m
}

func (m model) list() []int {
	l := []int{}
	for n := range m {
		l = append(l, n)
	}
	slices.Sort(l)
	return l
}

// is fails unless got is the set m, without words 0 at its end.
func is(t *testing.T, what string, got []uint64, m model) {
	t.Helper()
	if len(got) > 0 && got[len(got)-1] == 0 {
		t.Errorf("%s: %v ends in a word 0", what, got)
	}
	if l := modelOf(got).list(); !slices.Equal(l, m.list()) {
		t.Errorf("%s: %v, want %v", what, l, m.list())
	}
}

// sets are of many lengths and densities, some with words 0 at their ends.
func sets() [][]uint64 {
	l := [][]uint64{nil, {}, {0}, {0, 0, 0}, {1}, {1, 0}, {5}, {5, 0, 0}, {0, 1}, {0, 0, 1, 0}, {1 << 63}, {1 << 63, 1}, {0, 1 << 63},
		{math.MaxUint64}, {math.MaxUint64, math.MaxUint64, math.MaxUint64}, {2, 4, 8, 16}, {0, 4, 0, 16}, {0, 0, 8, 0}, {2, 4, 8, 0}}
	r := rand.New(rand.NewSource(2))
	for range 60 {
		s := make([]uint64, r.Intn(6))
		for i := range s {
			s[i] = r.Uint64()
			for range r.Intn(3) {
				s[i] &= r.Uint64()
			}
			if r.Intn(3) == 0 {
				s[i] = 0
			}
		}
		l = append(l, s)
	}
	return append(l, append(make([]uint64, 70), 3), slices.Repeat([]uint64{9}, 80))
}

// P2.1: the set of the numbers that may be in one.
func TestOf(t *testing.T) {
	is(t, "none", Of(), model{})
	is(t, "nil", Of(nil...), model{})
	is(t, "example", Of(0, 2, -1), model{0: true, 2: true})
	if got := Of(0, 2, -1); !slices.Equal(got, []uint64{5}) {
		t.Errorf("Of(0, 2, -1) = %v", got)
	}
	for _, n := range numbers {
		m := model{}
		if n >= 0 && n <= 4095 {
			m[n] = true
		}
		is(t, "one", Of(n), m)
		is(t, "twice", Of(n, n), m)
		is(t, "behind wrong ones", Of(-1, 1<<62, n, 4096), m)
	}
	m := model{}
	for _, n := range numbers {
		if n >= 0 && n <= 4095 {
			m[n] = true
		}
	}
	is(t, "all", Of(numbers...), m)
	back := slices.Clone(numbers)
	slices.Reverse(back)
	is(t, "all, backwards", Of(back...), m)
}

// P2.1: all numbers that may be in a set, at once.
func TestOfAll(t *testing.T) {
	l := []int{}
	for n := range 5000 {
		l = append(l, n)
	}
	s := Of(l...)
	if len(s) != 64 || Count(s) != 4096 || !slices.Equal(List(s), l[:4096]) {
		t.Errorf("%d words, %d numbers", len(s), Count(s))
	}
}

// P2.1: what is in a set.
func TestHas(t *testing.T) {
	for _, s := range sets() {
		m := modelOf(s)
		for _, n := range numbers {
			if Has(s, n) != m[n] {
				t.Errorf("Has(%v, %d) = %v", s, n, !m[n])
			}
		}
		for n := -200; n < 64*len(s)+200; n++ {
			if Has(s, n) != m[n] {
				t.Errorf("Has(%v, %d) = %v", s, n, !m[n])
			}
		}
	}
	// A set that is handed in may have greater numbers than one that is made.
	big := append(make([]uint64, 100), 2)
	if !Has(big, 6401) || Has(big, 6400) || Has(big, -6401) {
		t.Error("a number above MaxBit")
	}
}

// P2.1: the numbers of a set, and how many they are.
func TestList(t *testing.T) {
	if got := List([]uint64{0, 1}); !slices.Equal(got, []int{64}) {
		t.Errorf("List({0, 1}) = %v", got)
	}
	if got := List(nil); len(got) > 0 {
		t.Errorf("List(nil) = %v", got)
	}
	for _, s := range sets() {
		want := modelOf(s).list()
		if got := List(s); !slices.Equal(got, want) {
			t.Errorf("List(%v) = %v, want %v", s, got, want)
		}
		if got := Count(s); got != len(want) {
			t.Errorf("Count(%v) = %d, want %d", s, got, len(want))
		}
	}
}

// P2.2: union, intersection, difference; what is within and what is the same.
func TestTwo(t *testing.T) {
	for _, a := range sets() {
		for _, b := range sets() {
			x, y := modelOf(a), modelOf(b)
			or, and, less := model{}, model{}, model{}
			for n := range x {
				or[n] = true
				if y[n] {
					and[n] = true
				} else {
					less[n] = true
				}
			}
			for n := range y {
				or[n] = true
			}
			is(t, "Or", Or(a, b), or)
			is(t, "And", And(a, b), and)
			is(t, "Less", Less(a, b), less)
			if got := Within(a, b); got != (len(less) == 0) {
				t.Errorf("Within(%v, %v) = %v", a, b, got)
			}
			if got := Same(a, b); got != (len(less) == 0 && len(x) == len(y)) {
				t.Errorf("Same(%v, %v) = %v", a, b, got)
			}
		}
	}
}

// P2.2: what is below a number.
func TestCut(t *testing.T) {
	for _, s := range sets() {
		all := modelOf(s)
		below := func(n int) model {
			m := model{}
			for k := range all {
				if k < n {
					m[k] = true
				}
			}
			return m
		}
		for _, n := range numbers {
			is(t, "Cut", Cut(s, n), below(n))
		}
		for n := 0; n < 64*min(len(s), 6)+70; n++ {
			is(t, "Cut", Cut(s, n), below(n))
		}
	}
}

// P2.3: the laws of sets, as equal lists of words.
func TestLaws(t *testing.T) {
	l := sets()[:40]
	same := func(what string, a, b []uint64) {
		t.Helper()
		if !slices.Equal(a, b) {
			t.Errorf("%s: %v and %v", what, a, b)
		}
	}
	for _, a := range l {
		same("Or with itself", Or(a, a), Or(a, nil))
		same("And with itself", And(a, a), Or(a, nil))
		for _, b := range l {
			same("Or commutes", Or(a, b), Or(b, a))
			same("And commutes", And(a, b), And(b, a))
			same("Less and And", Or(Less(a, b), And(a, b)), Or(a, nil))
			for _, c := range l {
				same("Or associates", Or(Or(a, b), c), Or(a, Or(b, c)))
				same("And associates", And(And(a, b), c), And(a, And(b, c)))
				same("And over Or", And(a, Or(b, c)), Or(And(a, b), And(a, c)))
				same("Or over And", Or(a, And(b, c)), And(Or(a, b), Or(a, c)))
			}
		}
	}
}

// R2, R6: arguments stay as they are, results are memory of their own.
func TestMemory(t *testing.T) {
	l := []int{3, 70, -1}
	Of(l...)
	if !slices.Equal(l, []int{3, 70, -1}) {
		t.Errorf("Of changed its argument: %v", l)
	}
	whole := []uint64{1, 2, 0, 77, 78}
	a := whole[:3]
	b := []uint64{0, 4}
	results := [][]uint64{Or(a, nil), Or(nil, a), Or(a, a), And(a, a), Less(a, b), Less(a, nil), Cut(a, 1000), Cut(a, 66), Or(b, nil), Less(b, nil)}
	for _, s := range results {
		for i := range s {
			s[i] = 99
		}
		s = append(s, 99, 99, 99)
		_ = append(s[:0], 98)
	}
	List(a)
	Count(a)
	Has(a, 1)
	Within(a, b)
	Same(a, b)
	if !slices.Equal(whole, []uint64{1, 2, 0, 77, 78}) || !slices.Equal(b, []uint64{0, 4}) {
		t.Errorf("the arguments became %v and %v", whole, b)
	}
}
