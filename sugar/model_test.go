package sugar

import (
	"math/rand"
	"slices"

	"watchglass/api"
)

type list = []api.Node

// kidsOf is how many children each kind has.
var kidsOf = map[int]int{
	api.KTrue: 0, api.KFalse: 0, api.KProp: 0, api.KStep: 0,
	api.KAnd: 2, api.KOr: 2, api.KImp: 2, api.KSince: 2, api.KUntil: 2, api.KAlt: 2, api.KSeq: 2,
	api.KNot: 1, api.KPrev: 1, api.KNext: 1, api.KOnce: 1, api.KHist: 1, api.KSome: 1, api.KAll: 1, api.KBack: 1, api.KFore: 1, api.KTest: 1, api.KMany: 1,
}

// shorts are the kinds that a plain list has not.
var shorts = []int{api.KImp, api.KPrev, api.KNext, api.KOnce, api.KHist, api.KSome, api.KAll, api.KSince, api.KUntil}

// isReg tells whether a kind is one of regular expressions.
func isReg(kind int) bool { return kind >= api.KStep }

// kidsReg tells whether the children of a kind are regular expressions.
func kidsReg(kind int) bool {
	return isReg(kind) && kind != api.KTest || kind == api.KBack || kind == api.KFore
}

// hasSpan tells whether a kind has an interval.
func hasSpan(kind int) bool { return kind >= api.KPrev && kind <= api.KFore }

// over is the node n on these lists, made by hand.
func over(n api.Node, kids ...list) list {
	out := list{}
	n.Kids = nil
	for _, kid := range kids {
		from := len(out)
		for _, x := range kid {
			x.Kids = slices.Clone(x.Kids)
			for k := range x.Kids {
				x.Kids[k] += from
			}
			out = append(out, x)
		}
		n.Kids = append(n.Kids, len(out)-1)
	}
	return append(out, n)
}

func kind(k int, kids ...list) list { return over(api.Node{Kind: k}, kids...) }

func prop(name string) list { return over(api.Node{Kind: api.KProp, Name: name}) }

func timed(k int, s api.Span, kids ...list) list { return over(api.Node{Kind: k, Span: s}, kids...) }

// model is the promise's table, row by row: what the node n of l becomes.
func model(l list, n int) list {
	x := l[n]
	kids := []list{}
	for _, k := range x.Kids {
		kids = append(kids, model(l, k))
	}
	not := func(a list) list { return kind(api.KNot, a) }
	test := func(a list) list { return kind(api.KTest, a) }
	many := func(a list) list { return kind(api.KMany, a) }
	seq := func(a, b list) list { return kind(api.KSeq, a, b) }
	back := func(a list) list { return timed(api.KBack, x.Span, a) }
	fore := func(a list) list { return timed(api.KFore, x.Span, a) }
	step := kind(api.KStep)
	switch x.Kind {
	case api.KImp:
		return kind(api.KOr, not(kids[0]), kids[1])
	case api.KPrev:
		return back(seq(test(kids[0]), step))
	case api.KNext:
		return fore(seq(step, test(kids[0])))
	case api.KOnce:
		return back(seq(test(kids[0]), many(step)))
	case api.KSome:
		return fore(seq(many(step), test(kids[0])))
	case api.KHist:
		return not(back(seq(test(not(kids[0])), many(step))))
	case api.KAll:
		return not(fore(seq(many(step), test(not(kids[0])))))
	case api.KSince:
		return back(seq(test(kids[1]), many(seq(step, test(kids[0])))))
	case api.KUntil:
		return fore(seq(many(seq(test(kids[0]), step)), test(kids[1])))
	}
	return over(x, kids...)
}

// alike tells whether two lists are equal, field by field.
func alike(a, b list) bool {
	return slices.EqualFunc(a, b, func(x, y api.Node) bool {
		return x.Kind == y.Kind && x.Name == y.Name && x.Span == y.Span && slices.Equal(x.Kids, y.Kids)
	})
}

// copied is a copy that shares nothing.
func copied(l list) list {
	out := slices.Clone(l)
	for i := range out {
		out[i].Kids = slices.Clone(out[i].Kids)
	}
	return out
}

// spans are those that small formulas have.
var spans = []api.Span{{Lo: 0, Hi: api.NoEnd}, {Lo: 0, Hi: 0}, {Lo: 1, Hi: 2}}

// roots are all nodes of a kind, with each of the intervals.
func roots(k int) []api.Node {
	switch {
	case k == api.KProp:
		return []api.Node{{Kind: k, Name: "p"}, {Kind: k, Name: "q"}}
	case !hasSpan(k):
		return []api.Node{{Kind: k}}
	}
	out := []api.Node{}
	for _, s := range spans {
		out = append(out, api.Node{Kind: k, Span: s})
	}
	return out
}

// shapes are, by their numbers of nodes, all formulas, and all regular expressions, up to that number.
func shapes(size int) (forms, regs [][]list) {
	forms, regs = make([][]list, size+1), make([][]list, size+1)
	for n := 1; n <= size; n++ {
		for k := api.KTrue; k <= api.KMany; k++ {
			from, to := &forms, &forms
			if kidsReg(k) {
				from = &regs
			}
			if isReg(k) {
				to = &regs
			}
			for _, root := range roots(k) {
				(*to)[n] = append((*to)[n], sized(root, n, *from)...)
			}
		}
	}
	return forms, regs
}

// sized are all lists of n nodes with this root.
func sized(root api.Node, n int, kids [][]list) []list {
	out := []list{}
	switch kidsOf[root.Kind] {
	case 0:
		if n == 1 {
			out = append(out, over(root))
		}
	case 1:
		for _, a := range kids[n-1] {
			out = append(out, over(root, a))
		}
	case 2:
		for left := 1; left < n-1; left++ {
			for _, a := range kids[left] {
				for _, b := range kids[n-1-left] {
					out = append(out, over(root, a, b))
				}
			}
		}
	}
	return out
}

// anySpan is a random interval, often a short one.
func anySpan(r *rand.Rand) api.Span {
	lo := r.Intn(5)
	switch r.Intn(5) {
	case 0:
		return api.Span{Lo: lo, Hi: api.NoEnd}
	case 1:
		return api.Span{Lo: 0, Hi: lo}
	case 2:
		return api.Span{Lo: r.Intn(2) * 9999, Hi: []int{api.NoEnd, 9999}[r.Intn(2)]}
	}
	return api.Span{Lo: lo, Hi: lo + r.Intn(7)}
}

// anyList is a random formula or regular expression, of such a depth at most, with kinds of which may says so.
func anyList(r *rand.Rand, reg bool, depth int, may func(k int) bool) list {
	k := 0
	for ok := false; !ok; {
		k = 1 + r.Intn(api.KMany)
		ok = isReg(k) == reg && (depth > 1 || kidsOf[k] == 0 || k == api.KTest && r.Intn(4) > 0) && may(k)
	}
	n := api.Node{Kind: k}
	if k == api.KProp {
		n.Name = []string{"p", "q", "r"}[r.Intn(3)]
	}
	if hasSpan(k) {
		n.Span = anySpan(r)
	}
	kids := []list{}
	for range kidsOf[k] {
		kids = append(kids, anyList(r, kidsReg(k), depth-1, may))
	}
	return over(n, kids...)
}

func anyKind(int) bool { return true }

func plainKind(k int) bool { return !slices.Contains(shorts, k) }

// anyTrace is a random trace of n points, with some of the names.
func anyTrace(r *rand.Rand, n, most int) api.Trace {
	t := api.Trace{Names: [][]string{{"p", "q"}, {"q", "p", "r"}, {"r", "q"}, {}}[r.Intn(4)]}
	time := uint64(r.Intn(4))
	for range n {
		e := api.Event{Time: time}
		for id := range t.Names {
			if r.Intn(2) == 0 {
				e.Ids = append(e.Ids, id)
			}
		}
		t.Events = append(t.Events, e)
		time += uint64(max(0, r.Intn(most+2)-1))
	}
	return t
}
