package sat

import (
	"math/rand"
	"slices"
	"strconv"
	"strings"

	"watchglass/api"
)

type list = []api.Node

// kidsOf is how many children each kind has.
var kidsOf = map[int]int{
	api.KTrue: 0, api.KFalse: 0, api.KProp: 0, api.KStep: 0,
	api.KAnd: 2, api.KOr: 2, api.KImp: 2, api.KSince: 2, api.KUntil: 2, api.KAlt: 2, api.KSeq: 2,
	api.KNot: 1, api.KPrev: 1, api.KNext: 1, api.KOnce: 1, api.KHist: 1, api.KSome: 1, api.KAll: 1, api.KBack: 1, api.KFore: 1, api.KTest: 1, api.KMany: 1,
}

// isReg tells whether a kind is one of regular expressions.
func isReg(kind int) bool { return kind >= api.KStep }

// kidsReg tells whether the children of a kind are regular expressions.
func kidsReg(kind int) bool {
	return isReg(kind) && kind != api.KTest || kind == api.KBack || kind == api.KFore
}

// hasSpan tells whether a kind has an interval.
func hasSpan(kind int) bool { return kind >= api.KPrev && kind <= api.KFore }

// isFuture tells whether a kind looks at later points.
func isFuture(kind int) bool {
	return slices.Contains([]int{api.KNext, api.KSome, api.KAll, api.KUntil, api.KFore}, kind)
}

// over is the node n on these lists, made by hand.
func over(n api.Node, kids ...list) list {
	out := list{}
	n.Kids = nil
	for _, kid := range kids {
		from := len(out)
		for _, x := range kid {
			x.Kids = slices.Clone(x.Kids)
			for k := range x.Kids {
				x.Kids[k] += from
			}
			out = append(out, x)
		}
		n.Kids = append(n.Kids, len(out)-1)
	}
	return append(out, n)
}

func kind(k int, kids ...list) list { return over(api.Node{Kind: k}, kids...) }

func prop(name string) list { return over(api.Node{Kind: api.KProp, Name: name}) }

func timed(k int, s api.Span, kids ...list) list { return over(api.Node{Kind: k, Span: s}, kids...) }

// inSpan tells whether a difference is in an interval.
func inSpan(s api.Span, d uint64) bool {
	return d >= uint64(s.Lo) && (s.Hi == api.NoEnd || d <= uint64(s.Hi))
}

// apart is the difference of the times of two points, the greater one minus the lesser one.
func apart(t api.Trace, i, j int) uint64 {
	a, b := t.Events[i].Time, t.Events[j].Time
	return max(a, b) - min(a, b)
}

// holds is the promise word by word: whether the node n of l, a formula, holds at the point i.
func holds(t api.Trace, l list, n, i int) bool {
	x := l[n]
	kid := func(k, j int) bool { return holds(t, l, x.Kids[k], j) }
	in := func(j int) bool { return inSpan(x.Span, apart(t, i, j)) }
	// some tells whether there is a point from one to another, both with it, of which f tells so.
	some := func(from, to int, f func(j int) bool) bool {
		for j := from; j <= to; j++ {
			if f(j) {
				return true
			}
		}
		return false
	}
	every := func(from, to int, f func(j int) bool) bool {
		return !some(from, to, func(j int) bool { return !f(j) })
	}
	last := len(t.Events) - 1
	switch x.Kind {
	case api.KTrue:
		return true
	case api.KProp:
		return slices.ContainsFunc(t.Events[i].Ids, func(id int) bool { return t.Names[id] == x.Name })
	case api.KNot:
		return !kid(0, i)
	case api.KAnd:
		return kid(0, i) && kid(1, i)
	case api.KOr:
		return kid(0, i) || kid(1, i)
	case api.KImp:
		return !kid(0, i) || kid(1, i)
	case api.KPrev:
		return i > 0 && in(i-1) && kid(0, i-1)
	case api.KNext:
		return i < last && in(i+1) && kid(0, i+1)
	case api.KOnce:
		return some(0, i, func(j int) bool { return in(j) && kid(0, j) })
	case api.KSome:
		return some(i, last, func(j int) bool { return in(j) && kid(0, j) })
	case api.KHist:
		return every(0, i, func(j int) bool { return !in(j) || kid(0, j) })
	case api.KAll:
		return every(i, last, func(j int) bool { return !in(j) || kid(0, j) })
	case api.KSince:
		return some(0, i, func(j int) bool {
			return in(j) && kid(1, j) && every(j+1, i, func(k int) bool { return kid(0, k) })
		})
	case api.KUntil:
		return some(i, last, func(j int) bool {
			return in(j) && kid(1, j) && every(i, j-1, func(k int) bool { return kid(0, k) })
		})
	case api.KBack:
		w := ways(t, l, x.Kids[0])
		return some(0, i, func(j int) bool { return in(j) && w[j][i] })
	case api.KFore:
		w := ways(t, l, x.Kids[0])
		return some(i, last, func(j int) bool { return in(j) && w[i][j] })
	}
	return false
}

// ways are the ways of the node n of l, a regular expression, from each point to each other.
func ways(t api.Trace, l list, n int) [][]bool {
	x := l[n]
	size := len(t.Events)
	switch x.Kind {
	case api.KStep:
		return fill(size, func(i, j int) bool { return j == i+1 })
	case api.KTest:
		return fill(size, func(i, j int) bool { return i == j && holds(t, l, x.Kids[0], i) })
	}
	a := ways(t, l, x.Kids[0])
	if x.Kind == api.KMany {
		return closure(a)
	}
	b := ways(t, l, x.Kids[1])
	if x.Kind == api.KAlt {
		return union(a, b)
	}
	return product(a, b)
}

// fill is what f says of all pairs of n points.
func fill(n int, f func(i, j int) bool) [][]bool {
	out := make([][]bool, n)
	for i := range n {
		out[i] = make([]bool, n)
		for j := range n {
			out[i][j] = f(i, j)
		}
	}
	return out
}

func union(a, b [][]bool) [][]bool {
	return fill(len(a), func(i, j int) bool { return a[i][j] || b[i][j] })
}

func product(a, b [][]bool) [][]bool {
	return fill(len(a), func(i, j int) bool {
		for k := range a {
			if a[i][k] && b[k][j] {
				return true
			}
		}
		return false
	})
}

// closure is no way, or one, or twice as many as were found ahead, until there are no more.
func closure(a [][]bool) [][]bool {
	out := union(a, fill(len(a), func(i, j int) bool { return i == j }))
	for {
		more := product(out, out)
		if slices.EqualFunc(more, out, func(x, y []bool) bool { return slices.Equal(x, y) }) {
			return out
		}
		out = more
	}
}

// model is what All must answer for a valid trace and a formula.
func model(t api.Trace, l list) []bool {
	out := []bool{}
	for i := range t.Events {
		out = append(out, holds(t, l, len(l)-1, i))
	}
	return out
}

// spans are those that small formulas have.
var spans = []api.Span{{Lo: 0, Hi: api.NoEnd}, {Lo: 1, Hi: api.NoEnd}, {Lo: 0, Hi: 0}, {Lo: 0, Hi: 1}, {Lo: 1, Hi: 2}}

// roots are all nodes of a kind, with each of the intervals.
func roots(k int) []api.Node {
	switch {
	case k == api.KProp:
		return []api.Node{{Kind: k, Name: "p"}, {Kind: k, Name: "q"}}
	case !hasSpan(k):
		return []api.Node{{Kind: k}}
	}
	out := []api.Node{}
	for _, s := range spans {
		out = append(out, api.Node{Kind: k, Span: s})
	}
	return out
}

// shapes are, by their numbers of nodes, all formulas, or all regular expressions, up to that number.
func shapes(size int) (forms, regs [][]list) {
	forms, regs = make([][]list, size+1), make([][]list, size+1)
	for n := 1; n <= size; n++ {
		for k := api.KTrue; k <= api.KMany; k++ {
			from, to := &forms, &forms
			if kidsReg(k) {
				from = &regs
			}
			if isReg(k) {
				to = &regs
			}
			for _, root := range roots(k) {
				(*to)[n] = append((*to)[n], sized(root, n, *from)...)
			}
		}
	}
	return forms, regs
}

// sized are all lists of n nodes with this root.
func sized(root api.Node, n int, kids [][]list) []list {
	out := []list{}
	switch kidsOf[root.Kind] {
	case 0:
		if n == 1 {
			out = append(out, over(root))
		}
	case 1:
		for _, a := range kids[n-1] {
			out = append(out, over(root, a))
		}
	case 2:
		for left := 1; left < n-1; left++ {
			for _, a := range kids[left] {
				for _, b := range kids[n-1-left] {
					out = append(out, over(root, a, b))
				}
			}
		}
	}
	return out
}

// smallTraces are all traces of n points with the names p and q and differences of time up to most.
func smallTraces(n, most int) []api.Trace {
	if n == 0 {
		return []api.Trace{{Names: []string{"p", "q"}}}
	}
	out := []api.Trace{}
	for _, t := range smallTraces(n-1, most) {
		time := uint64(7)
		if n > 1 {
			time = t.Events[n-2].Time
		}
		for by := range most + 1 {
			if n == 1 && by > 0 {
				break
			}
			for _, ids := range [][]int{nil, {0}, {1}, {0, 1}} {
				x := t
				x.Events = append(slices.Clone(t.Events), api.Event{Time: time + uint64(by), Ids: ids})
				out = append(out, x)
			}
		}
	}
	return out
}

// anyTrace is a random trace of n points, with some of the names.
func anyTrace(r *rand.Rand, n, most int) api.Trace {
	t := api.Trace{Names: [][]string{{"p", "q"}, {"q", "p", "r"}, {"r", "q"}, {}}[r.Intn(4)]}
	time := uint64(r.Intn(4))
	for range n {
		e := api.Event{Time: time}
		for id := range t.Names {
			if r.Intn(2) == 0 {
				e.Ids = append(e.Ids, id)
			}
		}
		t.Events = append(t.Events, e)
		time += uint64(max(0, r.Intn(most+2)-1))
	}
	return t
}

// anySpan is a random interval, often a short one.
func anySpan(r *rand.Rand) api.Span {
	lo := r.Intn(5)
	switch r.Intn(4) {
	case 0:
		return api.Span{Lo: lo, Hi: api.NoEnd}
	case 1:
		return api.Span{Lo: 0, Hi: lo}
	}
	return api.Span{Lo: lo, Hi: lo + r.Intn(7)}
}

// anyList is a random formula or regular expression, of such a depth at most, with kinds of which may says so.
func anyList(r *rand.Rand, reg bool, depth int, may func(k int) bool) list {
	k := 0
	for ok := false; !ok; {
		k = 1 + r.Intn(api.KMany)
		ok = isReg(k) == reg && (depth > 1 || kidsOf[k] == 0 || k == api.KTest && r.Intn(4) > 0) && may(k)
	}
	n := api.Node{Kind: k}
	if k == api.KProp {
		n.Name = []string{"p", "q", "r"}[r.Intn(3)]
	}
	if hasSpan(k) {
		n.Span = anySpan(r)
	}
	kids := []list{}
	for range kidsOf[k] {
		kids = append(kids, anyList(r, kidsReg(k), depth-1, may))
	}
	return over(n, kids...)
}

func anyKind(int) bool { return true }

// made is a trace: points by blanks, each a time and, behind a colon, the letters of the names that hold.
func made(names, points string) api.Trace {
	t := api.Trace{Names: strings.Fields(names)}
	for _, s := range strings.Fields(points) {
		at, held, _ := strings.Cut(s, ":")
		time, err := strconv.ParseUint(at, 10, 64)
		if err != nil {
			panic(err)
		}
		e := api.Event{Time: time}
		for i, name := range t.Names {
			if strings.Contains(held, name) {
				e.Ids = append(e.Ids, i)
			}
		}
		t.Events = append(t.Events, e)
	}
	return t
}

// told is truth as a text.
func told(l []bool) string {
	s := ""
	for _, is := range l {
		s += map[bool]string{false: "0", true: "1"}[is]
	}
	return s
}

// copied are copies that share nothing.
func copied(t api.Trace, l list) (api.Trace, list) {
	out := api.Trace{Names: slices.Clone(t.Names), Events: slices.Clone(t.Events)}
	for i := range out.Events {
		out.Events[i].Ids = slices.Clone(out.Events[i].Ids)
	}
	nodes := slices.Clone(l)
	for i := range nodes {
		nodes[i].Kids = slices.Clone(nodes[i].Kids)
	}
	return out, nodes
}
