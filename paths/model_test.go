package paths

import (
	"math/rand"
	"slices"

	"watchglass/api"
)

type list = []api.Node

// kidsOf is how many children each kind has.
var kidsOf = map[int]int{
	api.KTrue: 0, api.KFalse: 0, api.KProp: 0, api.KStep: 0,
	api.KAnd: 2, api.KOr: 2, api.KImp: 2, api.KSince: 2, api.KUntil: 2, api.KAlt: 2, api.KSeq: 2,
	api.KNot: 1, api.KPrev: 1, api.KNext: 1, api.KOnce: 1, api.KHist: 1, api.KSome: 1, api.KAll: 1, api.KBack: 1, api.KFore: 1, api.KTest: 1, api.KMany: 1,
}

// isReg tells whether a kind is one of regular expressions.
func isReg(kind int) bool { return kind >= api.KStep }

// kidsReg tells whether the children of a kind are regular expressions.
func kidsReg(kind int) bool {
	return isReg(kind) && kind != api.KTest || kind == api.KBack || kind == api.KFore
}

// over is a node of a kind on these lists, made by hand.
func over(kind int, kids ...list) list {
	n := api.Node{Kind: kind}
	if kind == api.KProp {
		n.Name = "p"
	}
	if kind >= api.KPrev && kind <= api.KFore {
		n.Span = api.Span{Lo: 0, Hi: api.NoEnd}
	}
	out := list{}
	for _, kid := range kids {
		from := len(out)
		for _, x := range kid {
			x.Kids = slices.Clone(x.Kids)
			for k := range x.Kids {
				x.Kids[k] += from
			}
			out = append(out, x)
		}
		n.Kids = append(n.Kids, len(out)-1)
	}
	return append(out, n)
}

func step() list           { return over(api.KStep) }
func test() list           { return over(api.KTest, over(api.KProp)) }
func alt(a, b list) list   { return over(api.KAlt, a, b) }
func seq(a, b list) list   { return over(api.KSeq, a, b) }
func many(a list) list     { return over(api.KMany, a) }
func chain(l ...list) list { return fold(api.KSeq, l) }

// fold is a row of lists under nodes of one kind, the first ones deepest.
func fold(kind int, l []list) list {
	out := l[0]
	for _, x := range l[1:] {
		out = over(kind, out, x)
	}
	return out
}

// sample is a random valid list of a sort, of such a depth at most; its tests have formulas with regular expressions of their own.
func sample(r *rand.Rand, reg bool, depth int) list {
	kind := 0
	for ok := false; !ok; {
		kind = 1 + r.Intn(api.KMany)
		ok = isReg(kind) == reg && (depth > 1 || kidsOf[kind] == 0)
	}
	kids := []list{}
	for range kidsOf[kind] {
		kids = append(kids, sample(r, kidsReg(kind), depth-1))
	}
	return over(kind, kids...)
}

// loops is a random regular expression with many loops and few steps, so that much happens within a point.
func loops(r *rand.Rand, depth int) list {
	if depth == 0 || r.Intn(8) == 0 {
		if r.Intn(3) == 0 {
			return step()
		}
		return test()
	}
	switch r.Intn(7) {
	case 0, 1:
		return many(loops(r, depth-1))
	case 2:
		return alt(loops(r, depth-1), loops(r, depth-1))
	}
	return seq(loops(r, depth-1), loops(r, depth-1))
}

// shapes are, by their numbers of nodes (a test is one with its formula), all regular expressions up to that number.
func shapes(size int) [][]list {
	all := make([][]list, size+1)
	all[1] = []list{step(), test()}
	for n := 2; n <= size; n++ {
		for _, a := range all[n-1] {
			all[n] = append(all[n], many(a))
		}
		for left := 1; left < n-1; left++ {
			for _, a := range all[left] {
				for _, b := range all[n-1-left] {
					all[n] = append(all[n], alt(a, b), seq(a, b))
				}
			}
		}
	}
	return all
}

// numbered are the nodes of a kind below the node i, from left to right: what is below a test is not gone into.
func numbered(l list, i, kind int) []int {
	n := l[i]
	if n.Kind == kind {
		return []int{i}
	}
	out := []int{}
	if n.Kind != api.KTest {
		for _, k := range n.Kids {
			out = append(out, numbered(l, k, kind)...)
		}
	}
	return out
}

// in tells whether a number is in a set.
func in(s []uint64, n int) bool { return n/64 < len(s) && s[n/64]&(1<<uint(n%64)) != 0 }

// ways is the promise word by word: the points that the node i of l connects, where tests are the indexes of the tests by their numbers.
func ways(l list, i int, tests []int, vals [][]uint64) [][]bool {
	n := l[i]
	switch n.Kind {
	case api.KStep:
		return fill(len(vals), func(a, b int) bool { return b == a+1 })
	case api.KTest:
		return fill(len(vals), func(a, b int) bool { return a == b && in(vals[a], slices.Index(tests, i)) })
	}
	x := ways(l, n.Kids[0], tests, vals)
	if n.Kind == api.KMany {
		return closure(x)
	}
	y := ways(l, n.Kids[1], tests, vals)
	if n.Kind == api.KAlt {
		return union(x, y)
	}
	return product(x, y)
}

// model is what Reach must answer for a regular expression.
func model(l list, vals [][]uint64) [][]bool {
	return ways(l, len(l)-1, numbered(l, len(l)-1, api.KTest), vals)
}

// fill is what f says of all pairs of n points.
func fill(n int, f func(i, j int) bool) [][]bool {
	out := make([][]bool, n)
	for i := range n {
		out[i] = make([]bool, n)
		for j := range n {
			out[i][j] = f(i, j)
		}
	}
	return out
}

func union(a, b [][]bool) [][]bool {
	return fill(len(a), func(i, j int) bool { return a[i][j] || b[i][j] })
}

func product(a, b [][]bool) [][]bool {
	return fill(len(a), func(i, j int) bool {
		for k := range a {
			if a[i][k] && b[k][j] {
				return true
			}
		}
		return false
	})
}

// closure is no way, or one, and then as many more as there are.
func closure(a [][]bool) [][]bool {
	out := fill(len(a), func(i, j int) bool { return i == j })
	for {
		more := union(out, product(out, a))
		if alike(more, out) {
			return out
		}
		out = more
	}
}

// alike tells whether two answers are equal.
func alike(a, b [][]bool) bool {
	return slices.EqualFunc(a, b, func(x, y []bool) bool { return slices.Equal(x, y) })
}

// randomVals are sets of numbers below tests, and a few above, for n points; some end in words 0.
func randomVals(r *rand.Rand, n, tests int) [][]uint64 {
	vals := make([][]uint64, n)
	for i := range vals {
		vals[i] = make([]uint64, (tests+r.Intn(140))/64)
		for k := range vals[i] {
			vals[i][k] = r.Uint64()
			if r.Intn(3) == 0 {
				vals[i][k] &= r.Uint64()
			}
		}
		for range r.Intn(3) {
			vals[i] = append(vals[i], 0)
		}
	}
	return vals
}

// deep is a copy that shares nothing.
func deep(l list) list {
	out := slices.Clone(l)
	for i := range out {
		out[i].Kids = slices.Clone(out[i].Kids)
	}
	return out
}

// deepVals is a copy that shares nothing.
func deepVals(vals [][]uint64) [][]uint64 {
	out := make([][]uint64, len(vals))
	for i := range vals {
		out[i] = slices.Clone(vals[i])
	}
	return out
}
