package tree

import (
	"math"
	"math/rand"
	"slices"
	"strings"
	"testing"
	"unsafe"

	"watchglass/api"
)

type list = []api.Node

// places are numbers on both sides of a short list's ends, and of those of int.
var places = []int{math.MinInt, math.MinInt + 1, -2, -1, 0, 1, 2, 3, 1 << 31, 1 << 32, 1 << 62, math.MaxInt - 1, math.MaxInt}

// kidsOf is how many children each kind has, kind by kind, as the chapter lists them.
var kidsOf = map[int]int{
	api.KTrue: 0, api.KFalse: 0, api.KProp: 0, api.KStep: 0,
	api.KAnd: 2, api.KOr: 2, api.KImp: 2, api.KSince: 2, api.KUntil: 2, api.KAlt: 2, api.KSeq: 2,
	api.KNot: 1, api.KPrev: 1, api.KNext: 1, api.KOnce: 1, api.KHist: 1, api.KSome: 1, api.KAll: 1, api.KBack: 1, api.KFore: 1, api.KTest: 1, api.KMany: 1,
}

// regs are the kinds of regular expressions.
var regs = map[int]bool{api.KStep: true, api.KTest: true, api.KAlt: true, api.KSeq: true, api.KMany: true}

// overRegs are the kinds whose children are regular expressions.
var overRegs = map[int]bool{api.KBack: true, api.KFore: true, api.KAlt: true, api.KSeq: true, api.KMany: true}

// timed are the kinds that have an interval.
var timed = map[int]bool{api.KPrev: true, api.KNext: true, api.KOnce: true, api.KHist: true, api.KSome: true, api.KAll: true,
	api.KSince: true, api.KUntil: true, api.KBack: true, api.KFore: true}

// shorts are the kinds that a plain list has not.
var shorts = map[int]bool{api.KImp: true, api.KPrev: true, api.KNext: true, api.KOnce: true, api.KHist: true, api.KSome: true, api.KAll: true,
	api.KSince: true, api.KUntil: true}

// kinds are all kinds, ascending.
func kinds() []int {
	l := []int{}
	for k := range kidsOf {
		l = append(l, k)
	}
	slices.Sort(l)
	return l
}

// fielded tells whether the fields beside Kids are as the chapter asks; it knows the spans and names that these tests write.
func fielded(n api.Node) bool {
	if _, ok := kidsOf[n.Kind]; !ok {
		return false
	}
	if n.Kind == api.KProp != (n.Name != "") {
		return false
	}
	if slices.Contains([]string{"true", "back", "until", "P", "0a", "a b", "_a", "é", "abcdefghijklmnopq"}, n.Name) {
		return false
	}
	if !timed[n.Kind] {
		return n.Span.Lo == 0 && n.Span.Hi == 0
	}
	return n.Span.Lo >= 0 && n.Span.Lo <= 9999 && (n.Span.Hi == -1 || n.Span.Lo <= n.Span.Hi && n.Span.Hi <= 9999)
}

// valid is the promise word by word: a node's last child directly precedes it, and each other child what is below the next one.
func valid(l list) bool {
	size, uses := make([]int, len(l)), make([]int, len(l))
	for i, n := range l {
		if !fielded(n) || len(n.Kids) != kidsOf[n.Kind] {
			return false
		}
		size[i] = 1
		at := i - 1
		for k := len(n.Kids) - 1; k >= 0; k-- {
			if n.Kids[k] != at || at < 0 || regs[l[at].Kind] != overRegs[n.Kind] {
				return false
			}
			uses[at]++
			size[i] += size[at]
			at -= size[at]
		}
	}
	for i := range l {
		if (i < len(l)-1) != (uses[i] == 1) {
			return false
		}
	}
	return len(l) > 0
}

// over is a node on these lists, made by hand.
func over(n api.Node, kids ...list) list {
	out := list{}
	for _, kid := range kids {
		from := len(out)
		for _, x := range kid {
			x.Kids = slices.Clone(x.Kids)
			for k := range x.Kids {
				x.Kids[k] += from
			}
			out = append(out, x)
		}
		n.Kids = append(n.Kids, len(out)-1)
	}
	return append(out, n)
}

// of is over with no other fields than the kind.
func of(kind int, kids ...list) list { return over(api.Node{Kind: kind}, kids...) }

// in is over with an interval.
func in(kind, lo, hi int, kids ...list) list {
	return over(api.Node{Kind: kind, Span: api.Span{Lo: lo, Hi: hi}}, kids...)
}

func prop(name string) list { return list{{Kind: api.KProp, Name: name}} }

// deep is a copy that shares nothing.
func deep(l list) list {
	out := slices.Clone(l)
	for i := range out {
		out[i].Kids = slices.Clone(out[i].Kids)
	}
	return out
}

// alike tells whether two lists are equal, field by field.
func alike(a, b list) bool {
	return slices.EqualFunc(a, b, func(x, y api.Node) bool {
		return x.Kind == y.Kind && x.Name == y.Name && x.Span == y.Span && slices.Equal(x.Kids, y.Kids)
	})
}

// sample is a random valid list of a sort, with the given depth at most.
func sample(r *rand.Rand, reg bool, depth int) list {
	kind := 0
	for ok := false; !ok; {
		kind = 1 + r.Intn(api.KMany)
		ok = regs[kind] == reg && (depth > 1 || kidsOf[kind] == 0)
	}
	n := api.Node{Kind: kind}
	if kind == api.KProp {
		n.Name = []string{"a", "b", "p", "q", "p_1", "truer", "abcdefghijklmnop"}[r.Intn(7)]
	}
	if timed[kind] {
		n.Span = []api.Span{{}, {Lo: 0, Hi: -1}, {Lo: 2, Hi: 5}, {Lo: 9999, Hi: 9999}, {Lo: 9999, Hi: -1}}[r.Intn(5)]
	}
	kids := []list{}
	for range kidsOf[kind] {
		kids = append(kids, sample(r, overRegs[kind], depth-1))
	}
	return over(n, kids...)
}

// samples are many valid lists.
func samples() []list {
	r := rand.New(rand.NewSource(5))
	l := []list{}
	for i := range 400 {
		l = append(l, sample(r, i%3 == 0, 1+r.Intn(7)))
	}
	return l
}

// spoil changes something in a list, often so that it is not valid any more.
func spoil(r *rand.Rand, l list) list {
	l = deep(l)
	i, k := r.Intn(len(l)), r.Intn(len(l))
	n := &l[i]
	switch r.Intn(10) {
	case 0:
		n.Kind = r.Intn(api.KMany + 2)
	case 1:
		n.Name = []string{"", "p", "true", "back", "until", "P", "0a", "a b", "_a", "é", "abcdefghijklmnopq"}[r.Intn(11)]
	case 2:
		n.Span = api.Span{Lo: []int{-1, 0, 4, 9999, 10000}[r.Intn(5)], Hi: []int{-2, -1, 0, 3, 4, 9999, 10000, math.MaxInt}[r.Intn(8)]}
	case 3:
		n.Kids = append(n.Kids, k)
	case 4:
		if len(n.Kids) > 0 {
			n.Kids[r.Intn(len(n.Kids))] = append(places, k)[r.Intn(len(places)+1)]
		}
	case 5:
		l[i], l[k] = l[k], l[i]
	case 6:
		l = slices.Insert(l, i, l[k])
	case 7:
		l = slices.Delete(l, i, i+1)
	case 8:
		slices.Reverse(n.Kids)
	case 9:
		l = l[:i]
	}
	return l
}

// asks checks all that P5.1 says of a list, valid or not, and that nothing is told of one that is not.
func asks(t *testing.T, l list) {
	t.Helper()
	before := deep(l)
	may := valid(l)
	reg, plain := may && regs[l[len(l)-1].Kind], may
	for _, n := range l {
		plain = plain && !shorts[n.Kind]
	}
	if May(l) != may || Form(l) != (may && !reg) || Reg(l) != reg || Plain(l) != plain || Same(l, l) != may {
		t.Errorf("%v: may %v, form %v, reg %v, plain %v, same %v", l, May(l), Form(l), Reg(l), Plain(l), Same(l, l))
	}
	if !may {
		tellsNothing(t, l)
	}
	if !alike(l, before) {
		t.Errorf("%v became %v", before, l)
	}
}

// tellsNothing fails if something is told of a list that is not valid.
func tellsNothing(t *testing.T, l list) {
	t.Helper()
	p := prop("p")
	if Depth(l) != 0 || len(Names(l)) > 0 || Same(l, p) || Same(p, l) || Same(l, nil) {
		t.Errorf("%v: depth %d, names %v", l, Depth(l), Names(l))
	}
	for _, i := range append(places, len(l)-1) {
		if len(Part(l, i)) > 0 {
			t.Errorf("%v has a part %d", l, i)
		}
	}
	for _, k := range kinds() {
		if len(Join(api.Node{Kind: k}, l)) > 0 || len(Join(api.Node{Kind: k}, l, p)) > 0 || len(Join(api.Node{Kind: k}, p, l)) > 0 {
			t.Errorf("%v was joined under kind %d", l, k)
		}
	}
}

// P5.1: every kind on every number of children of either sort.
func TestKinds(t *testing.T) {
	count := 0
	step, p := of(api.KStep), prop("p")
	for k := -2; k < 30; k++ {
		n := api.Node{Kind: k}
		if k == api.KProp {
			n.Name = "a"
		}
		for _, kids := range [][]list{{}, {p}, {step}, {p, p}, {p, step}, {step, p}, {step, step}, {p, p, p}, {step, step, step}} {
			l := over(n, kids...)
			asks(t, l)
			if May(l) {
				count++
			}
		}
	}
	if count != 22 {
		t.Errorf("%d of 22 kinds may be", count)
	}
	for _, k := range []int{math.MinInt, math.MaxInt, 1<<32 + api.KTrue, -api.KNot} {
		asks(t, of(k))
		asks(t, of(k, p))
	}
}

// P5.1: each field of each kind, with the limits of names and spans.
func TestFields(t *testing.T) {
	for _, k := range kinds() {
		kid := prop("p")
		if overRegs[k] {
			kid = of(api.KStep)
		}
		kids := slices.Repeat([]list{kid}, kidsOf[k])
		for _, name := range []string{"", "p", "p_1", "abcdefghijklmnop", "abcdefghijklmnopq", "true", "until", "back", "P", "0a", "_a", "a b", "é"} {
			asks(t, over(api.Node{Kind: k, Name: name}, kids...))
		}
		for _, lo := range []int{math.MinInt, -1, 0, 1, 5, 9999, 10000, math.MaxInt} {
			for _, hi := range []int{math.MinInt, -2, -1, 0, 1, 4, 5, 9999, 10000, math.MaxInt} {
				n := api.Node{Kind: k, Span: api.Span{Lo: lo, Hi: hi}}
				if k == api.KProp {
					n.Name = "p"
				}
				asks(t, over(n, kids...))
			}
		}
	}
}

// P5.1: all short lists over some kinds, with children inside and outside the list.
func TestShortLists(t *testing.T) {
	asks(t, nil)
	asks(t, list{})
	nodes := []api.Node{}
	for _, k := range []int{api.KTrue, api.KNot, api.KAnd, api.KStep, api.KSeq} {
		nodes = append(nodes, api.Node{Kind: k})
		for a := -1; a < 4; a++ {
			nodes = append(nodes, api.Node{Kind: k, Kids: []int{a}})
			for b := -1; b < 4; b++ {
				nodes = append(nodes, api.Node{Kind: k, Kids: []int{a, b}})
			}
		}
	}
	count := 0
	for _, a := range nodes {
		asks(t, list{a})
		for _, b := range nodes {
			asks(t, list{a, b})
			for _, c := range nodes {
				l := list{a, b, c}
				if May(l) != valid(l) {
					t.Fatalf("May(%v) = %v", l, May(l))
				}
				if May(l) {
					count++
				}
			}
		}
	}
	if count != 3 {
		t.Errorf("%d of 3 lists of three nodes may be", count)
	}
}

// P5.1: valid lists of all shapes, and others that are nearly valid.
func TestRandomLists(t *testing.T) {
	r := rand.New(rand.NewSource(51))
	right, wrong := 0, 0
	for _, l := range samples() {
		if !May(l) {
			t.Errorf("May(%v) = false", l)
		}
		asks(t, l)
		for range 30 {
			x := spoil(r, l)
			asks(t, x)
			if May(x) {
				right++
			} else {
				wrong++
			}
		}
	}
	if right == 0 || wrong == 0 {
		t.Errorf("%d right, %d wrong", right, wrong)
	}
}

// P5.1: plain lists have no short kind, at the root or below it, in formulas and in tests.
func TestPlain(t *testing.T) {
	p := prop("p")
	for _, k := range kinds() {
		if regs[k] || overRegs[k] {
			continue
		}
		n := api.Node{Kind: k}
		if k == api.KProp {
			n.Name = "p"
		}
		x := over(n, slices.Repeat([]list{p}, kidsOf[k])...)
		for _, l := range []list{x, of(api.KNot, x), of(api.KAnd, x, p), of(api.KAnd, p, x), of(api.KBack, of(api.KTest, x)), of(api.KTest, of(api.KFore, of(api.KMany, of(api.KTest, x))))} {
			if !May(l) || Plain(l) == shorts[k] {
				t.Errorf("Plain(%v) = %v", l, Plain(l))
			}
		}
	}
}

// P5.1: shared children, children out of order, lists that are cut or in another order.
func TestOrder(t *testing.T) {
	yes, no := api.Node{Kind: api.KTrue}, api.Node{Kind: api.KFalse}
	for i, l := range []list{
		{yes, no}, {yes, yes}, {yes, {Kind: api.KAnd, Kids: []int{0, 0}}}, {yes, no, {Kind: api.KAnd, Kids: []int{1, 0}}},
		{yes, no, {Kind: api.KNot, Kids: []int{1}}}, {yes, no, {Kind: api.KNot, Kids: []int{0}}}, {{Kind: api.KNot, Kids: []int{1}}, yes},
		{{Kind: api.KNot, Kids: []int{0}}}, {{Kind: api.KNot, Kids: []int{0}}, {Kind: api.KNot, Kids: []int{0}}},
		{yes, {Kind: api.KNot, Kids: []int{0}}, {Kind: api.KNot, Kids: []int{0}}},
		{yes, no, yes, {Kind: api.KAnd, Kids: []int{0, 1}}, {Kind: api.KAnd, Kids: []int{3, 2}}},
		{yes, no, yes, {Kind: api.KAnd, Kids: []int{0, 2}}, {Kind: api.KAnd, Kids: []int{1, 3}}},
		{yes, no, yes, {Kind: api.KAnd, Kids: []int{1, 2}}, {Kind: api.KNot, Kids: []int{3}}},
		{yes, {Kind: api.KNot, Kids: []int{0, 0}}}, {yes, {Kind: api.KNot}},
	} {
		if May(l) {
			t.Errorf("%d: %v may be", i, l)
		}
		asks(t, l)
	}
	for _, l := range []list{
		{yes, no, yes, {Kind: api.KAnd, Kids: []int{1, 2}}, {Kind: api.KAnd, Kids: []int{0, 3}}},
		{yes, no, {Kind: api.KAnd, Kids: []int{0, 1}}, yes, {Kind: api.KAnd, Kids: []int{2, 3}}},
		{{Kind: api.KProp, Name: "p", Kids: []int{}}, {Kind: api.KNot, Kids: []int{0}}},
	} {
		if !May(l) {
			t.Errorf("%v may not be", l)
		}
	}
}

// P5.2: lists that are the same, and lists that differ in one thing.
func TestSame(t *testing.T) {
	r := rand.New(rand.NewSource(52))
	all := samples()
	for i, l := range all {
		if x := deep(l); !Same(l, x) || !Same(x, l) {
			t.Errorf("%v is not the same as its copy", l)
		}
		for _, x := range []list{spoil(r, l), spoil(r, l), all[r.Intn(len(all))], all[(i+1)%len(all)]} {
			if want := valid(x) && alike(l, x); Same(l, x) != want || Same(x, l) != want {
				t.Errorf("Same of %v and %v is not %v", l, x, want)
			}
		}
	}
	none, empty := prop("p"), prop("p")
	empty[0].Kids = []int{}
	if !Same(none, empty) || !Same(empty, none) {
		t.Error("no kids and empty kids differ")
	}
}

// P5.2: one field alone makes a difference, also where both lists have the same kinds, or the same shape.
func TestSameTellsFields(t *testing.T) {
	p, q, yes := prop("p"), prop("q"), of(api.KTrue)
	for _, x := range [][2]list{
		{p, q}, {p, yes}, {yes, of(api.KFalse)}, {yes, of(api.KStep)},
		{in(api.KOnce, 1, 3, p), in(api.KOnce, 0, 3, p)}, {in(api.KOnce, 1, 3, p), in(api.KOnce, 1, 4, p)}, {in(api.KOnce, 1, 3, p), in(api.KOnce, 1, -1, p)},
		{in(api.KOnce, 1, 3, p), in(api.KHist, 1, 3, p)}, {in(api.KSince, 0, 0, p, q), in(api.KSince, 0, 0, q, p)},
		{of(api.KAnd, p, of(api.KAnd, p, p)), of(api.KAnd, of(api.KAnd, p, p), p)}, {of(api.KNot, p), of(api.KNot, of(api.KNot, p))},
		{p, of(api.KNot, p)}, {of(api.KTest, p), of(api.KMany, of(api.KTest, p))},
	} {
		if !May(x[0]) || !May(x[1]) || Same(x[0], x[1]) || Same(x[1], x[0]) {
			t.Errorf("%v and %v are the same", x[0], x[1])
		}
	}
	if Same(nil, nil) || Same(list{}, nil) || Same(p, nil) || Same(nil, p) || Same(p, append(deep(p), q...)) {
		t.Error("what is not valid is the same as something")
	}
}

// deepOf is Depth by its words, from the root down.
func deepOf(l list, i int) int {
	below := 0
	for _, k := range l[i].Kids {
		below = max(below, deepOf(l, k))
	}
	return 1 + below
}

// P5.2: the depth is that of the deeper child, left or right.
func TestDepth(t *testing.T) {
	p := prop("p")
	for _, x := range []struct {
		l    list
		want int
	}{
		{nil, 0}, {of(0), 0}, {p, 1}, {of(api.KStep), 1}, {of(api.KNot, p), 2}, {of(api.KAnd, p, p), 2},
		{of(api.KAnd, of(api.KNot, p), p), 3}, {of(api.KAnd, p, of(api.KNot, p)), 3}, {of(api.KNot, of(api.KNot, of(api.KNot, p))), 4},
		{of(api.KFore, of(api.KSeq, of(api.KTest, of(api.KNot, p)), of(api.KStep))), 5},
		{of(api.KAnd, p, p)[:2], 0}, {append(of(api.KNot, p), p...), 0},
	} {
		if Depth(x.l) != x.want {
			t.Errorf("Depth(%v) = %d, want %d", x.l, Depth(x.l), x.want)
		}
	}
	for _, l := range samples() {
		if want := deepOf(l, len(l)-1); Depth(l) != want {
			t.Errorf("Depth(%v) = %d, want %d", l, Depth(l), want)
		}
	}
}

// partOf is Part by its words, from the node down, put together by hand.
func partOf(l list, i int) list {
	kids := []list{}
	for _, k := range l[i].Kids {
		kids = append(kids, partOf(l, k))
	}
	n := l[i]
	n.Kids = nil
	return over(n, kids...)
}

// P5.2: the part at each index, and none at the others.
func TestPart(t *testing.T) {
	for _, l := range samples() {
		before := deep(l)
		for i := range l {
			part := Part(l, i)
			if !May(part) || !alike(part, partOf(l, i)) {
				t.Errorf("Part(%v, %d) = %v", l, i, part)
			}
		}
		for _, i := range append(places, -len(l), len(l), len(l)+1) {
			if (i < 0 || i >= len(l)) && len(Part(l, i)) > 0 {
				t.Errorf("Part(%v, %d) = %v", l, i, Part(l, i))
			}
		}
		if !alike(l, before) {
			t.Errorf("%v became %v", before, l)
		}
	}
	l := of(api.KAnd, of(api.KNot, prop("p")), in(api.KUntil, 1, 2, prop("q"), prop("r")))
	for i, want := range []list{prop("p"), of(api.KNot, prop("p")), prop("q"), prop("r"), in(api.KUntil, 1, 2, prop("q"), prop("r")), l} {
		if got := Part(l, i); !alike(got, want) {
			t.Errorf("Part(%v, %d) = %v, want %v", l, i, got, want)
		}
	}
}

// P5.2: the names, ascending by their bytes, each once.
func TestNames(t *testing.T) {
	join := func(names ...string) list {
		l := prop(names[0])
		for i, s := range names[1:] {
			if i%2 == 0 {
				l = of(api.KAnd, l, prop(s))
			} else {
				l = of(api.KFore, of(api.KAlt, of(api.KTest, l), of(api.KTest, prop(s))))
			}
		}
		return l
	}
	for _, x := range []struct {
		l    list
		want []string
	}{
		{nil, nil}, {of(api.KTrue), nil}, {of(api.KStep), nil}, {of(0), nil}, {of(api.KNot), nil}, {append(prop("p"), prop("q")...), nil},
		{prop("p"), []string{"p"}}, {join("p", "p", "p"), []string{"p"}}, {join("q", "p", "a", "q", "b"), []string{"a", "b", "p", "q"}},
		{join("p10", "p2", "p_", "pa", "p", "z", "ab", "b"), []string{"ab", "b", "p", "p10", "p2", "p_", "pa", "z"}},
	} {
		if got := Names(x.l); !slices.Equal(got, x.want) {
			t.Errorf("Names(%v) = %v, want %v", x.l, got, x.want)
		}
	}
	for _, l := range samples() {
		got := Names(l)
		for i := 1; i < len(got); i++ {
			if got[i-1] >= got[i] {
				t.Errorf("Names(%v) = %v", l, got)
			}
		}
		for _, n := range l {
			if n.Kind == api.KProp && !slices.Contains(got, n.Name) {
				t.Errorf("Names(%v) = %v, without %s", l, got, n.Name)
			}
		}
	}
}

// P5.2: what is joined of lists that are right, whatever the Kids of the root.
func TestJoin(t *testing.T) {
	r := rand.New(rand.NewSource(53))
	all := append(samples(), prop("p"), of(api.KStep), of(api.KTrue))
	joined := 0
	for range 4000 {
		n := api.Node{Kind: 1 + r.Intn(api.KMany), Span: []api.Span{{}, {Lo: 1, Hi: 3}, {Lo: 3, Hi: 1}}[r.Intn(3)], Name: []string{"", "", "p", "true"}[r.Intn(4)]}
		kids := []list{}
		for range r.Intn(4) {
			kids = append(kids, all[r.Intn(len(all))])
		}
		want := over(n, kids...)
		if !valid(want) {
			want = nil
		}
		n.Kids = []int{7, -1, math.MaxInt}[:r.Intn(4)]
		root := slices.Clone(n.Kids)
		if got := Join(n, kids...); !alike(got, want) {
			t.Errorf("Join(%v, %v) = %v, want %v", n, kids, got, want)
		} else if len(got) > 0 {
			joined++
		}
		if !slices.Equal(n.Kids, root) {
			t.Errorf("the root's kids %v became %v", root, n.Kids)
		}
	}
	if joined < 100 {
		t.Errorf("only %d were joined", joined)
	}
}

// P5.2: nothing comes of a join whose result would not be valid.
func TestJoinNone(t *testing.T) {
	p, step, and := prop("p"), of(api.KStep), api.Node{Kind: api.KAnd}
	two := append(prop("p"), prop("q")...)
	for i, l := range []list{
		Join(api.Node{}), Join(api.Node{}, p), Join(api.Node{Kind: 23}, p), Join(api.Node{Kind: -1}), Join(api.Node{Kind: api.KNot}),
		Join(and), Join(and, p), Join(and, p, p, p), Join(and, p, step), Join(and, step, p), Join(and, nil, p), Join(and, p, nil), Join(and, nil, nil),
		Join(and, two), Join(and, nil, two), Join(and, two, nil), Join(and, p, two), Join(api.Node{Kind: api.KNot}, two), Join(api.Node{Kind: api.KNot}, nil),
		Join(api.Node{Kind: api.KProp}), Join(api.Node{Kind: api.KProp, Name: "until"}), Join(api.Node{Kind: api.KProp, Name: "p"}, p), Join(api.Node{Kind: api.KTrue}, nil),
		Join(api.Node{Kind: api.KNot, Name: "p"}, p), Join(api.Node{Kind: api.KNot, Span: api.Span{Lo: 0, Hi: -1}}, p), Join(api.Node{Kind: api.KOnce, Span: api.Span{Lo: 2, Hi: 1}}, p),
		Join(api.Node{Kind: api.KOnce}, step), Join(api.Node{Kind: api.KBack}, p), Join(api.Node{Kind: api.KMany}, p), Join(api.Node{Kind: api.KTest}, step),
		Join(and, p, list{{Kind: api.KNot, Kids: []int{-1}}}), Join(and, list{{Kind: api.KTrue}, {Kind: api.KNot, Kids: []int{1}}}, p),
		Join(and, p, list{{Kind: api.KTrue}, {Kind: api.KNot, Kids: []int{math.MinInt}}}), Join(and, p, list{{Kind: api.KTrue}, {Kind: api.KNot, Kids: []int{math.MaxInt}}}),
		Join(and, slices.Repeat([]list{p}, 100000)...),
	} {
		if len(l) > 0 {
			t.Errorf("%d: %v", i, l)
		}
	}
	for _, l := range []list{Join(api.Node{Kind: api.KStep, Kids: []int{4}}), Join(api.Node{Kind: api.KProp, Name: "p", Kids: []int{0}})} {
		if len(l) != 1 || len(l[0].Kids) > 0 || !May(l) {
			t.Errorf("%v, want a node without children", l)
		}
	}
	if l := Join(api.Node{Kind: api.KSince, Kids: []int{1, 0}}, prop("a"), prop("b")); !alike(l, in(api.KSince, 0, 0, prop("a"), prop("b"))) {
		t.Errorf("%v, want a first", l)
	}
}

// P5.2: what is told is new memory, list by list, and what was handed in stays as it is.
func TestOwn(t *testing.T) {
	for _, l := range samples() {
		before := deep(l)
		n := api.Node{Kind: api.KTest}
		if Reg(l) {
			n.Kind = api.KMany
		}
		for _, x := range []list{Part(l, len(l)-1), Part(l, 0), Join(n, l), Join(api.Node{Kind: api.KAlt}, Join(n, l), Join(n, l))} {
			held := deep(x)
			for i := range x {
				_ = append(x[i].Kids, 99)
			}
			if !alike(x, held) {
				t.Errorf("the lists of %v share memory", held)
			}
			for i := range x {
				for k := range x[i].Kids {
					x[i].Kids[k] = 99
				}
				x[i] = api.Node{}
			}
		}
		if !alike(l, before) {
			t.Errorf("%v became %v", before, l)
		}
	}
}

// P5.2: a name that is told keeps no text that was handed in.
func TestOwnNames(t *testing.T) {
	text := strings.Repeat("name ", 1000)
	l := prop(text[5:9])
	for _, s := range []string{Names(l)[0], Part(l, 0)[0].Name, Join(l[0])[0].Name, Join(api.Node{Kind: api.KNot}, l)[0].Name} {
		if s != "name" || unsafe.StringData(s) == unsafe.StringData(l[0].Name) {
			t.Errorf("%q lies in what was handed in", s)
		}
	}
}

// P5.2: calls end for lists that are as deep as they are long.
func TestDeepLists(t *testing.T) {
	const n = 1 << 16
	chain := prop("p")
	for i := range n - 1 {
		chain = append(chain, api.Node{Kind: api.KNot, Kids: []int{i}})
	}
	comb := list{}
	for range n {
		comb = append(comb, api.Node{Kind: api.KStep})
	}
	for i := range n - 1 {
		left := n + i - 1
		if i == 0 {
			left = n - 1
		}
		comb = append(comb, api.Node{Kind: api.KSeq, Kids: []int{n - 2 - i, left}})
	}
	for _, l := range []list{chain, comb} {
		part := Part(l, len(l)-1)
		if !May(l) || Depth(l) != n || !Same(l, part) {
			t.Errorf("depth %d of %d", Depth(l), n)
		}
	}
	if l := Join(api.Node{Kind: api.KOr}, chain, chain); Depth(l) != n+1 || len(l) != 2*n+1 {
		t.Errorf("depth %d, %d nodes", Depth(l), len(l))
	}
}

// P5.3: a list is the join of its root and the parts of its children, and so is each part.
func TestJoinOfParts(t *testing.T) {
	for _, l := range samples() {
		for i, n := range l {
			kids := []list{}
			for _, k := range n.Kids {
				kids = append(kids, Part(l, k))
			}
			whole := Part(l, i)
			if got := Join(n, kids...); !Same(got, whole) || !alike(got, whole) {
				t.Errorf("the part %d of %v is not the join %v", i, l, got)
			}
			if i == len(l)-1 && !Same(Join(n, kids...), l) {
				t.Errorf("%v is not the join of its parts", l)
			}
		}
	}
}
