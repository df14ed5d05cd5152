package sat

import (
	"sort"

	"watchglass/api"
	"watchglass/ival"
)

// stretch is the points from one up to another, which is not in it. Since
// times never fall, the points on one side of a point at a distance in an
// interval are always a stretch.
type stretch struct{ from, to int }

// distance returns the difference of the times of i and j, where j is i or
// later.
func (x *judge) distance(i, j int) uint64 { return x.events[j].Time - x.events[i].Time }

// past returns, for each point, the points up to it at a distance in s.
func (x *judge) past(s api.Span) []stretch {
	found := make([]stretch, len(x.events))
	for i := range found {
		from := sort.Search(i, func(j int) bool { return ival.Class(s, x.distance(j, i)) >= 0 })
		to := from + sort.Search(i+1-from, func(k int) bool { return !ival.Has(s, x.distance(from+k, i)) })
		found[i] = stretch{from, to}
	}
	return found
}

// future returns, for each point, the points from it on at a distance in s.
func (x *judge) future(s api.Span) []stretch {
	found := make([]stretch, len(x.events))
	for i := range found {
		to := i + sort.Search(len(found)-i, func(k int) bool { return ival.Class(s, x.distance(i, i+k)) < 0 })
		from := i + sort.Search(to-i, func(k int) bool { return ival.Has(s, x.distance(i, i+k)) })
		found[i] = stretch{from, to}
	}
	return found
}

// prev tells where a holds at the point before, at a distance in s.
func (x *judge) prev(s api.Span, a []bool) []bool {
	return x.each(func(i int) bool { return i > 0 && a[i-1] && ival.Has(s, x.distance(i-1, i)) })
}

// next tells where a holds at the point behind, at a distance in s.
func (x *judge) next(s api.Span, a []bool) []bool {
	return x.each(func(i int) bool { return i+1 < len(a) && a[i+1] && ival.Has(s, x.distance(i, i+1)) })
}

// some tells, for each point, whether a holds somewhere on its stretch.
func some(a []bool, on []stretch) []bool {
	counts := counted(a)
	truth := make([]bool, len(a))
	for i, s := range on {
		truth[i] = counts[s.to] > counts[s.from]
	}
	return truth
}

// all tells, for each point, whether a holds everywhere on its stretch.
func all(a []bool, on []stretch) []bool { return not(some(not(a), on)) }

// counted tells, for each point and for the end, at how many points before it
// a holds.
func counted(a []bool) []int {
	counts := make([]int, len(a)+1)
	for i, is := range a {
		counts[i+1] = counts[i]
		if is {
			counts[i+1]++
		}
	}
	return counts
}

// since narrows the stretch of each point to the points after which a holds,
// up to this point. If none is left, it ends where it begins, or before.
func since(a []bool, on []stretch) []stretch {
	from := 0
	for i, s := range on {
		if !a[i] {
			from = i
		}
		on[i].from = max(s.from, from)
	}
	return on
}

// until narrows the stretch of each point to the points before which a holds,
// from this point on. If none is left, it ends where it begins, or before.
func until(a []bool, on []stretch) []stretch {
	to := len(on)
	for i := len(on) - 1; i >= 0; i-- {
		if !a[i] {
			to = i + 1
		}
		on[i].to = min(on[i].to, to)
	}
	return on
}
