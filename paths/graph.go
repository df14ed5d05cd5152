package paths

import (
	"slices"

	"watchglass/api"
	"watchglass/bits"
)

// The places that every graph has.
const (
	first = iota
	last
	places // how many these are
)

// none is the test of an edge that asks for none.
const none = -1

// edge leads from one place to another, if its test holds.
type edge struct{ from, to, test int }

// graph is a regular expression as places with edges between them: each way
// of it from a point to another one leads from the first place to the last.
type graph struct {
	places int
	tests  int
	stays  []edge // within a point; in the order of the list
	steps  []edge // to the next point
}

// graphOf returns the graph of a regular expression.
func graphOf(l []api.Node) *graph {
	g := &graph{places: places}
	g.lay(l, len(l)-1, first, last)
	return g
}

// lay adds the ways of the node i of l, between two places that are there.
func (g *graph) lay(l []api.Node, i, from, to int) {
	kids := l[i].Kids
	switch l[i].Kind {
	case api.KStep:
		g.steps = append(g.steps, edge{from, to, none})
	case api.KTest:
		g.stays = append(g.stays, edge{from, to, g.tests})
		g.tests++
	case api.KAlt:
		g.lay(l, kids[0], from, to)
		g.lay(l, kids[1], from, to)
	case api.KSeq:
		middle := g.place()
		g.lay(l, kids[0], from, middle)
		g.lay(l, kids[1], middle, to)
	case api.KMany:
		// A loop has a place of its own: from and to may be on other ways.
		loop := g.place()
		g.stays = append(g.stays, edge{from, loop, none})
		g.lay(l, kids[0], loop, loop)
		g.stays = append(g.stays, edge{loop, to, none})
	}
}

// place adds a place.
func (g *graph) place() int {
	g.places++
	return g.places - 1
}

// sets returns an empty set of n numbers for each place.
func (g *graph) sets(n int) [][]uint64 {
	s := make([][]uint64, g.places)
	for i := range s {
		s[i] = make([]uint64, (n+wordSize-1)/wordSize)
	}
	return s
}

// step makes goals those that a step leads to, where later are those at the
// next point.
func (g *graph) step(goals, later [][]uint64) {
	for _, s := range goals {
		clear(s)
	}
	for _, e := range g.steps {
		add(goals[e.from], later[e.to])
	}
}

// stay adds to goals those that are reached within the point at which the
// tests v hold.
//
// Two rounds find all. Take a way within the point that is at no place twice.
// Each edge of it stands behind the one before, unless it goes on from the
// place of a loop into the loop's child, and had come there from this child.
// That happens once at most: only by the place of its loop one comes into a
// child or out of it, and there the way has been.
func (g *graph) stay(goals [][]uint64, v []uint64) {
	for range 2 {
		for _, e := range slices.Backward(g.stays) {
			if e.test == none || bits.Has(v, e.test) {
				add(goals[e.from], goals[e.to])
			}
		}
	}
}

// add adds the numbers of b to a, which has as many words.
func add(a, b []uint64) {
	for i, w := range b {
		a[i] |= w
	}
}
