package sat

import (
	"slices"

	"watchglass/api"
	"watchglass/paths"
)

// wordSize is how many numbers a word of a set tells of.
const wordSize = 64

// back tells where a way of the child of n ends that begins at a distance in
// the interval of n.
func (x *judge) back(n api.Node) []bool {
	w := x.walk(n)
	on := x.past(n.Span)
	truth := make([]bool, len(on))
	// The ways that end from a on and before b begin at start or later. To ask
	// for all points at once takes memory by the square of their number.
	for b := len(on); b > 0; {
		a := on[b-1].from
		start := on[a].from
		rows := w.reach(start, b)
		for i := a; i < b; i++ {
			for j := on[i].from; j < on[i].to && !truth[i]; j++ {
				truth[i] = rows[j-start][i-start]
			}
		}
		b = a
	}
	return truth
}

// fore tells where a way of the child of n begins that ends at a distance in
// the interval of n.
func (x *judge) fore(n api.Node) []bool {
	w := x.walk(n)
	on := x.future(n.Span)
	truth := make([]bool, len(on))
	for a := 0; a < len(on); { // part by part, as in back
		b := on[a].to
		rows := w.reach(a, on[b-1].to)
		for i := a; i < b; i++ {
			truth[i] = slices.Contains(rows[i-a][on[i].from-a:on[i].to-a], true)
		}
		a = b
	}
	return truth
}

// walk is a regular expression with the formulas of its tests cut down to
// true, so that what lies within them is looked at once only.
type walk struct {
	list  []api.Node
	tests [][]bool   // the truth of the formula of each test
	vals  [][]uint64 // for each point, the tests that hold
}

// walk returns the child of n, whose tests have been judged.
func (x *judge) walk(n api.Node) *walk {
	w := &walk{}
	w.add(x, n.Kids[0])
	w.vals = make([][]uint64, len(x.events))
	for i := range w.vals {
		w.vals[i] = w.hold(i)
	}
	return w
}

// add adds the node i, with what is below it, and returns its place.
func (w *walk) add(x *judge, i int) int {
	n := api.Node{Kind: x.list[i].Kind}
	if n.Kind == api.KTest {
		w.tests = append(w.tests, x.take(i))
		n.Kids = []int{w.put(api.Node{Kind: api.KTrue})}
		return w.put(n)
	}
	for _, k := range x.list[i].Kids {
		n.Kids = append(n.Kids, w.add(x, k))
	}
	return w.put(n)
}

// put adds a node as the last one, and returns its place.
func (w *walk) put(n api.Node) int {
	w.list = append(w.list, n)
	return len(w.list) - 1
}

// hold returns the set of the tests that hold at the point i.
func (w *walk) hold(i int) []uint64 {
	set := make([]uint64, (len(w.tests)+wordSize-1)/wordSize)
	for k, truth := range w.tests {
		if truth[i] {
			set[k/wordSize] |= 1 << (k % wordSize)
		}
	}
	return set
}

// reach tells of each pair of points from one on and before another whether a
// way connects them. Ways lead only forward: what is outside changes nothing.
func (w *walk) reach(from, to int) [][]bool { return paths.Reach(w.list, w.vals[from:to]) }
