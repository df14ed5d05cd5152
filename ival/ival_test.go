package ival

import (
	"math"
	"math/big"
	"strconv"
	"testing"

	"watchglass/api"
)

// ends lie on both sides of every limit of an interval.
var ends = []int{math.MinInt, math.MinInt + 1, -9999, -3, -2, -1, 0, 1, 2, 3, 5, 7, 63, 64, 255, 256, 9998, 9999, 10000, 10001,
	1 << 31, 1 << 32, 1<<32 + 5, math.MaxInt - 1, math.MaxInt}

// spans are all intervals with these ends, valid and not.
func spans() []api.Span {
	l := []api.Span{}
	for _, lo := range ends {
		for _, hi := range ends {
			l = append(l, api.Span{Lo: lo, Hi: hi})
		}
	}
	return l
}

// diffs are differences on both sides of every limit of s.
func diffs(s api.Span) []uint64 {
	l := []uint64{0, 1, 2, 3, 4, 5, 6, 9998, 9999, 10000, 1<<32 - 1, 1 << 32, 1<<32 + 2, math.MaxInt64, 1 << 63, 1<<63 + 1,
		math.MaxUint64 - 9999, math.MaxUint64 - 1, math.MaxUint64}
	for _, e := range []int{s.Lo, s.Hi} {
		for d := -2; d <= 2; d++ {
			l = append(l, uint64(e)+uint64(d))
		}
	}
	return l
}

// valid is what the promise calls valid, limit by limit.
func valid(s api.Span) bool {
	if s.Lo < 0 || s.Lo > 9999 {
		return false
	}
	if s.Hi == -1 {
		return true
	}
	return s.Lo <= s.Hi && s.Hi <= 9999
}

// classOf is Class of a sum that may be greater than every uint64.
func classOf(s api.Span, sum *big.Int) int {
	if s.Hi == api.NoEnd {
		if sum.Cmp(big.NewInt(int64(s.Lo))) > 0 {
			return s.Lo
		}
		return int(sum.Int64())
	}
	if sum.Cmp(big.NewInt(int64(s.Hi))) > 0 {
		return -1
	}
	return int(sum.Int64())
}

func big64(d uint64) *big.Int { return new(big.Int).SetUint64(d) }

// P3.1: valid spans, with the limits of both ends.
func TestMayTellsValidSpans(t *testing.T) {
	count := 0
	for _, s := range spans() {
		if May(s) != valid(s) {
			t.Errorf("May(%v) = %v", s, May(s))
		}
		if May(s) {
			count++
		}
	}
	if count == 0 {
		t.Error("no span is valid")
	}
	for s, want := range map[api.Span]bool{
		{Lo: 0, Hi: 0}: true, {Lo: 0, Hi: 9999}: true, {Lo: 9999, Hi: 9999}: true, {Lo: 9999, Hi: api.NoEnd}: true, {Lo: 0, Hi: api.NoEnd}: true,
		{Lo: -1, Hi: 0}: false, {Lo: -1, Hi: -1}: false, {Lo: 0, Hi: 10000}: false, {Lo: 10000, Hi: 10000}: false,
		{Lo: 10000, Hi: api.NoEnd}: false, {Lo: 4, Hi: 3}: false, {Lo: 0, Hi: -2}: false, {Lo: -2, Hi: -2}: false,
	} {
		if May(s) != want {
			t.Errorf("May(%v) = %v, want %v", s, May(s), want)
		}
	}
}

// P3.1: of spans that are not valid there is nothing to tell.
func TestSpansThatAreNotValid(t *testing.T) {
	for _, s := range spans() {
		if valid(s) {
			continue
		}
		if Text(s) != "" || Wide(s) != 0 {
			t.Errorf("%v: text %q, width %d", s, Text(s), Wide(s))
		}
		for _, d := range diffs(s) {
			if Has(s, d) || Class(s, d) != -1 {
				t.Errorf("%v, %d: has %v, class %d", s, d, Has(s, d), Class(s, d))
			}
			for _, c := range ends {
				if In(s, c) || Later(s, c, d) != -1 {
					t.Errorf("%v, class %d, %d: in %v, later %d", s, c, d, In(s, c), Later(s, c, d))
				}
			}
		}
	}
}

// P3.1: Has takes both ends in.
func TestHas(t *testing.T) {
	for _, s := range spans() {
		if !valid(s) {
			continue
		}
		for _, d := range diffs(s) {
			n := big64(d)
			want := n.Cmp(big.NewInt(int64(s.Lo))) >= 0 && (s.Hi == api.NoEnd || n.Cmp(big.NewInt(int64(s.Hi))) <= 0)
			if Has(s, d) != want {
				t.Errorf("Has(%v, %d) = %v", s, d, Has(s, d))
			}
		}
	}
	two := api.Span{Lo: 2, Hi: 5}
	for d, want := range []bool{false, false, true, true, true, true, false, false} {
		if Has(two, uint64(d)) != want {
			t.Errorf("Has(%v, %d) = %v", two, d, !want)
		}
	}
}

// P3.1: Text writes the ends, and * for none.
func TestText(t *testing.T) {
	for s, want := range map[api.Span]string{
		{Lo: 0, Hi: 0}: "[0,0]", {Lo: 2, Hi: 5}: "[2,5]", {Lo: 0, Hi: api.NoEnd}: "[0,*]", {Lo: 10, Hi: 9999}: "[10,9999]",
		{Lo: 9999, Hi: api.NoEnd}: "[9999,*]", {Lo: 9999, Hi: 9999}: "[9999,9999]", {Lo: 0, Hi: 10}: "[0,10]",
	} {
		if Text(s) != want {
			t.Errorf("Text(%v) = %q, want %q", s, Text(s), want)
		}
	}
	for _, s := range spans() {
		if !valid(s) {
			continue
		}
		end := strconv.Itoa(s.Hi)
		if s.Hi == -1 {
			end = "*"
		}
		if want := "[" + strconv.Itoa(s.Lo) + "," + end + "]"; Text(s) != want {
			t.Errorf("Text(%v) = %q, want %q", s, Text(s), want)
		}
	}
}

// P3.2: the classes' number, each difference's class, the classes that are in.
func TestClasses(t *testing.T) {
	for _, s := range spans() {
		if !valid(s) {
			continue
		}
		wide := s.Hi + 1
		if s.Hi == api.NoEnd {
			wide = s.Lo + 1
		}
		if Wide(s) != wide {
			t.Errorf("Wide(%v) = %d, want %d", s, Wide(s), wide)
		}
		for _, d := range diffs(s) {
			if want := classOf(s, big64(d)); Class(s, d) != want {
				t.Errorf("Class(%v, %d) = %d, want %d", s, d, Class(s, d), want)
			}
		}
		for _, c := range append([]int{wide - 2, wide - 1, wide, wide + 1, s.Lo - 1, s.Lo, s.Lo + 1}, ends...) {
			if want := c >= 0 && c < wide && c >= s.Lo; In(s, c) != want {
				t.Errorf("In(%v, %d) = %v", s, c, In(s, c))
			}
		}
	}
}

// P3.2: the chapter's examples, and others of every case.
func TestClassesOneByOne(t *testing.T) {
	two, endless := api.Span{Lo: 2, Hi: 5}, api.Span{Lo: 2, Hi: api.NoEnd}
	for _, x := range []struct {
		s    api.Span
		d    uint64
		want int
	}{
		{two, 0, 0}, {two, 1, 1}, {two, 2, 2}, {two, 5, 5}, {two, 6, -1}, {two, math.MaxUint64, -1},
		{endless, 0, 0}, {endless, 1, 1}, {endless, 2, 2}, {endless, 3, 2}, {endless, 6, 2}, {endless, math.MaxUint64, 2},
		{api.Span{}, 0, 0}, {api.Span{}, 1, -1}, {api.Span{Hi: api.NoEnd}, 0, 0}, {api.Span{Hi: api.NoEnd}, 9, 0},
	} {
		if got := Class(x.s, x.d); got != x.want {
			t.Errorf("Class(%v, %d) = %d, want %d", x.s, x.d, got, x.want)
		}
	}
	for _, x := range []struct {
		s    api.Span
		c    int
		d    uint64
		want int
	}{
		{endless, 1, math.MaxUint64, 2}, {endless, 0, 1, 1}, {endless, 1, 1, 2}, {endless, 2, 0, 2}, {endless, 2, 9, 2}, {endless, 0, 0, 0},
		{endless, 3, 0, -1}, {endless, -1, 1, -1}, {endless, -1, 0, -1},
		{two, 0, 5, 5}, {two, 0, 6, -1}, {two, 5, 0, 5}, {two, 5, 1, -1}, {two, 1, math.MaxUint64, -1}, {two, 5, math.MaxUint64 - 4, -1},
		{two, 6, 0, -1}, {two, -1, 0, -1}, {two, -1, 1, -1}, {two, -1, 3, -1}, {two, math.MinInt, 1 << 63, -1}, {two, math.MaxInt, 1, -1},
	} {
		if got := Later(x.s, x.c, x.d); got != x.want {
			t.Errorf("Later(%v, %d, %d) = %d, want %d", x.s, x.c, x.d, got, x.want)
		}
	}
}

// P3.2: Later of every class, with sums on both sides of 2^64, and of numbers that are none.
func TestLater(t *testing.T) {
	for _, s := range spans() {
		if !valid(s) {
			continue
		}
		for _, c := range append([]int{Wide(s) - 1, Wide(s), s.Lo - 1, s.Lo, s.Lo + 1}, ends...) {
			for _, d := range append(diffs(s), uint64(Wide(s)-c-1), uint64(Wide(s)-c), -uint64(c), -uint64(c)-1, uint64(s.Lo-c)) {
				want := -1
				if c >= 0 && c < Wide(s) {
					want = classOf(s, new(big.Int).Add(big64(uint64(c)), big64(d)))
				}
				if got := Later(s, c, d); got != want {
					t.Errorf("Later(%v, %d, %d) = %d, want %d", s, c, d, got, want)
				}
			}
		}
	}
}

// P3.3: a class tells of a difference whether it is in, and what it becomes.
func TestClassTellsAllOfADifference(t *testing.T) {
	for _, s := range spans() {
		if !valid(s) {
			continue
		}
		for _, a := range diffs(s) {
			c := Class(s, a)
			if In(s, c) != Has(s, a) {
				t.Errorf("%v, %d: in %v, has %v", s, a, In(s, c), Has(s, a))
			}
			for _, d := range append(diffs(s), math.MaxUint64-a) {
				if d <= math.MaxUint64-a && Later(s, c, d) != Class(s, a+d) {
					t.Errorf("%v, %d and %d: later %d, class %d", s, a, d, Later(s, c, d), Class(s, a+d))
				}
			}
		}
	}
}

// P3.3: every class of a small span is the class of a difference, its own.
func TestEveryClassIsItsOwn(t *testing.T) {
	for lo := range 12 {
		for hi := -1; hi < 12; hi++ {
			s := api.Span{Lo: lo, Hi: hi}
			for c := range Wide(s) {
				if Class(s, uint64(c)) != c || Later(s, c, 0) != c || Later(s, 0, uint64(c)) != c {
					t.Errorf("%v: class %d is not its own", s, c)
				}
			}
		}
	}
}
