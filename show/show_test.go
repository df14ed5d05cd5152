package show

import (
	"math/rand"
	"strings"
	"testing"

	"watchglass/api"
	"watchglass/parse"
	"watchglass/tree"
)

// node is a list with a root on other lists; if it has a span, none is written.
func node(kind int, kids ...list) list {
	if isTimed(kind) {
		return tree.Join(api.Node{Kind: kind, Span: api.Span{Hi: api.NoEnd}}, kids...)
	}
	return tree.Join(api.Node{Kind: kind}, kids...)
}

// timed is node with a span.
func timed(kind, lo, hi int, kids ...list) list {
	return tree.Join(api.Node{Kind: kind, Span: api.Span{Lo: lo, Hi: hi}}, kids...)
}

func prop(name string) list { return tree.Join(api.Node{Kind: api.KProp, Name: name}) }

// leaf is a list of one node, of either sort.
func leaf(reg bool) list {
	if reg {
		return node(api.KStep)
	}
	return prop("p")
}

// leaves is as many of them as a kind has children.
func leaves(kind int) []list {
	kids := []list{}
	for range sorts[kind].least {
		kids = append(kids, leaf(kidsReg(kind)))
	}
	return kids
}

// simple is a list of a kind whose children are leaves.
func simple(kind int) list {
	if kind == api.KProp {
		return prop("q")
	}
	return node(kind, leaves(kind)...)
}

// over is a list on which a kind stands so many times, each time in that place; the other place, if there is one, has a leaf.
func over(kind, place, times int) list {
	l := leaf(kidsReg(kind))
	for range times {
		kids := leaves(kind)
		kids[place] = l
		l = node(kind, kids...)
	}
	return l
}

// shows fails if a list has not that text and that depth.
func shows(t *testing.T, l list, text string, deep int) {
	t.Helper()
	if got := Text(l); got != text {
		t.Errorf("%q, not %q", got, text)
	}
	if got := Nest(l); got != deep {
		t.Errorf("%q: depth %d, not %d", text, got, deep)
	}
}

// asks checks all promises of a list, and tells whether its text may be read.
func asks(t *testing.T, l list) bool {
	t.Helper()
	text := Text(l)
	if want := told(l); text != want {
		t.Errorf("%q, not %q", text, want)
	}
	if len(text) > api.MaxText {
		return false
	}
	deep := nested(text)
	if got := Nest(l); got != deep {
		t.Errorf("%q: depth %d, not %d", text, got, deep)
	}
	if len(l) > api.MaxNodes || deep > api.MaxNest {
		return false
	}
	if got, at, e := reader(l)(text); e != api.OK || !tree.Same(got, l) {
		t.Errorf("%q: %v at %d: %v, not %v", text, e, at, got, l)
	}
	return true
}

// reader is the call that reads the text of a list.
func reader(l list) func(string) (list, int, api.Errno) {
	if tree.Reg(l) {
		return parse.Regex
	}
	return parse.Parse
}

// P7.1, P7.2: the chapter's examples, and of each kind one by hand.
func TestByHand(t *testing.T) {
	p, q, r, step := prop("p"), prop("q"), prop("r"), node(api.KStep)
	shows(t, node(api.KOr, node(api.KImp, p, q), node(api.KNot, node(api.KAnd, p, q))), "(p -> q) | !(p & q)", 2)
	shows(t, timed(api.KSince, 0, 3, p, node(api.KUntil, q, r)), "p since[0,3] (q until r)", 1)
	shows(t, timed(api.KFore, 1, 2, node(api.KSeq, node(api.KMany, step), node(api.KTest, p))), "fore[1,2] {.* ; ?p}", 2)
	for kind, text := range map[int]string{
		api.KTrue: "true", api.KFalse: "false", api.KProp: "q", api.KAnd: "p & p", api.KOr: "p | p", api.KImp: "p -> p",
		api.KSince: "p since p", api.KUntil: "p until p", api.KStep: ".", api.KAlt: ". + .", api.KSeq: ". ; .", api.KMany: ".*",
	} {
		shows(t, simple(kind), text, 0)
	}
	for kind, text := range map[int]string{
		api.KNot: "!p", api.KPrev: "prev p", api.KNext: "next p", api.KOnce: "once p", api.KHist: "hist p", api.KSome: "some p", api.KAll: "all p",
		api.KBack: "back {.}", api.KFore: "fore {.}", api.KTest: "?p",
	} {
		shows(t, simple(kind), text, 1)
	}
}

// P7.1: every kind in every place below every kind, and below that, in the other place, every kind again.
func TestPairs(t *testing.T) {
	count := 0
	for _, outer := range kinds() {
		for place := range sorts[outer].least {
			for _, inner := range kinds() {
				if isReg(inner) != kidsReg(outer) {
					continue
				}
				kids := leaves(outer)
				kids[place] = simple(inner)
				l := node(outer, kids...)
				asks(t, l)
				unneeded(t, l)
				for _, other := range kinds() {
					if isReg(other) == kidsReg(outer) && len(kids) == 2 {
						kids[1-place] = simple(other)
						asks(t, node(outer, kids...))
					}
				}
				count++
			}
		}
	}
	if count != (10+8)*17+7*5 {
		t.Error(count)
	}
}

// unneeded fails if a pair of parentheses could be left out.
func unneeded(t *testing.T, l list) {
	t.Helper()
	text := Text(l)
	for from := range len(text) {
		if text[from] != '(' {
			continue
		}
		to, deep := from, 1
		for deep > 0 {
			to++
			switch text[to] {
			case '(':
				deep++
			case ')':
				deep--
			}
		}
		less := text[:from] + text[from+1:to] + text[to+1:]
		if got, _, e := reader(l)(less); e == api.OK && tree.Same(got, l) {
			t.Errorf("%q is read as %q", less, text)
		}
	}
}

// P7.1: spans, on each kind that has one.
func TestSpans(t *testing.T) {
	for span, text := range map[api.Span]string{
		{Lo: 0, Hi: -1}: "", {Lo: 0, Hi: 0}: "[0,0]", {Lo: 1, Hi: -1}: "[1,*]", {Lo: 0, Hi: 1}: "[0,1]", {Lo: 0, Hi: 9999}: "[0,9999]",
		{Lo: 9999, Hi: -1}: "[9999,*]", {Lo: 9999, Hi: 9999}: "[9999,9999]", {Lo: 2, Hi: 5}: "[2,5]",
	} {
		p, q, step := prop("p"), prop("q"), node(api.KStep)
		for kind, word := range map[int]string{api.KPrev: "prev", api.KNext: "next", api.KOnce: "once", api.KHist: "hist", api.KSome: "some", api.KAll: "all"} {
			shows(t, timed(kind, span.Lo, span.Hi, p), word+text+" p", 1)
			shows(t, timed(kind, span.Lo, span.Hi, node(api.KOr, p, q)), word+text+" (p | q)", 2)
		}
		for kind, word := range map[int]string{api.KSince: "since", api.KUntil: "until"} {
			shows(t, timed(kind, span.Lo, span.Hi, p, q), "p "+word+text+" q", 0)
		}
		for kind, word := range map[int]string{api.KBack: "back", api.KFore: "fore"} {
			shows(t, timed(kind, span.Lo, span.Hi, step), word+text+" {.}", 1)
		}
	}
}

// P7.1 to P7.3: random lists of all sizes, some of them beyond the limits.
func TestRandom(t *testing.T) {
	r := rand.New(rand.NewSource(7))
	read, other := 0, 0
	for i := range 3000 {
		size := 1 + r.Intn(12)
		if i%6 == 0 {
			size = 1 + r.Intn(220)
		}
		l := grown(r, i%3 == 0, size)
		if asks(t, l) {
			read++
		} else {
			other++
		}
		if i%10 == 0 && size < 40 {
			unneeded(t, l)
		}
	}
	if read < 2000 || other < 20 {
		t.Error(read, other)
	}
}

// P7.2, P7.3: each way of nesting at the last level that may be read, and one level deeper.
func TestNestLimit(t *testing.T) {
	for _, kind := range []int{api.KNot, api.KPrev, api.KNext, api.KOnce, api.KHist, api.KSome, api.KAll} {
		for times := 38; times <= 43; times++ {
			nestsTo(t, over(kind, 0, times), times)
			nestsTo(t, node(kind, over(api.KAnd, 1, times)), times+1)
			nestsTo(t, node(api.KTest, over(kind, 0, times)), times+1)
		}
	}
	for _, kind := range []int{api.KImp, api.KOr, api.KAnd, api.KSince, api.KUntil, api.KAlt, api.KSeq} {
		for times := 38; times <= 43; times++ {
			nestsTo(t, over(kind, 1, times), times-1)
			nestsTo(t, over(kind, 0, times), 0)
		}
	}
	nestsTo(t, over(api.KMany, 0, 60), 0)
	for times := 18; times <= 22; times++ {
		l := prop("p")
		for range times {
			l = node(api.KBack, node(api.KTest, l))
		}
		nestsTo(t, l, 2*times)
		nestsTo(t, node(api.KNot, l), 2*times+1)
	}
	// The deepest place need not be the last one, nor the first.
	p, deep := prop("p"), over(api.KNot, 0, 5)
	nestsTo(t, node(api.KAnd, node(api.KAnd, node(api.KNot, p), deep), node(api.KNot, p)), 5)
	nestsTo(t, node(api.KAnd, deep, p), 5)
	nestsTo(t, node(api.KAnd, p, node(api.KAnd, deep, p)), 6)
}

// nestsTo fails if a list has not that depth, or if it is not read just as deep as a text may be.
func nestsTo(t *testing.T, l list, deep int) {
	t.Helper()
	if got := Nest(l); got != deep {
		t.Errorf("%q: depth %d, not %d", Text(l), got, deep)
	}
	more, r := max(api.MaxNest-deep, 0), strings.Repeat
	got, _, e := reader(l)(r("(", more) + Text(l) + r(")", more))
	if deep <= api.MaxNest && (e != api.OK || !tree.Same(got, l)) || deep > api.MaxNest && e != api.ErrDeep {
		t.Errorf("%q: %v", Text(l), e)
	}
	if _, _, e := reader(l)(r("(", more+1) + Text(l) + r(")", more+1)); e != api.ErrDeep {
		t.Errorf("%q: %v", Text(l), e)
	}
}

// P7.3: the greatest number of nodes and of bytes, and one more.
func TestReadLimits(t *testing.T) {
	for _, kind := range []int{api.KImp, api.KAnd, api.KOr, api.KAlt, api.KSeq} {
		if l := over(kind, 0, 99); len(l) != 199 || !asks(t, l) {
			t.Error(kind)
		}
		if _, _, e := reader(over(kind, 0, 100))(Text(over(kind, 0, 100))); e != api.ErrMany {
			t.Error(kind, e)
		}
	}
	if l := over(api.KMany, 0, 199); !asks(t, l) || asks(t, over(api.KMany, 0, 200)) {
		t.Error(Text(l))
	}
	for more := range 4 { // texts of 1999 to 2002 bytes
		l := prop("abcdefghijklmnop")
		for range 58 {
			l = timed(api.KSince, 1000, 2000, l, prop("abcdefghijklmnop"))
		}
		l = node(api.KAnd, l, prop("q"+strings.Repeat("r", more+7)))
		if len(Text(l)) != 1999+more {
			t.Error(len(Text(l)))
		}
		if got := asks(t, l); got != (len(Text(l)) <= api.MaxText) {
			t.Error(more, len(Text(l)), got)
		}
	}
}

// P7.1, P7.2: what is not valid has no text and no depth.
func TestNotValid(t *testing.T) {
	p, step := prop("p")[0], node(api.KStep)[0]
	not := api.Node{Kind: api.KNot, Kids: []int{0}}
	for i, l := range []list{
		nil, {}, {p, p}, {{Kind: api.KNot}}, {not}, {not, p}, {p, not, not}, {p, {Kind: api.KNot, Kids: []int{1}}}, {p, {Kind: api.KNot, Kids: []int{-1}}},
		{p, {Kind: api.KNot, Kids: []int{0, 0}}}, {p, {Kind: api.KAnd, Kids: []int{0, 0}}}, {p, p, {Kind: api.KAnd, Kids: []int{1, 0}}}, {p, p, {Kind: api.KAnd, Kids: []int{0}}},
		{{Kind: 0}}, {{Kind: -1}}, {{Kind: api.KMany + 1}}, {{Kind: 1 << 40}}, {p, {Kind: api.KMany, Kids: []int{0}}}, {step, not}, {step, {Kind: api.KTest, Kids: []int{0}}},
		{p, {Kind: api.KBack, Kids: []int{0}}}, {step, {Kind: api.KBack, Kids: []int{0}, Span: api.Span{Lo: 2, Hi: 1}}}, {p, {Kind: api.KOnce, Kids: []int{0}, Span: api.Span{Lo: -1, Hi: -1}}},
		{p, {Kind: api.KOnce, Kids: []int{0}, Span: api.Span{Hi: 10000}}}, {p, {Kind: api.KNot, Kids: []int{0}, Span: api.Span{Hi: -1}}}, {p, {Kind: api.KNot, Kids: []int{0}, Name: "p"}},
		{{Kind: api.KTrue, Name: "true"}}, {{Kind: api.KProp}}, {{Kind: api.KProp, Name: "true"}}, {{Kind: api.KProp, Name: "P"}}, {{Kind: api.KProp, Name: "p q"}}, {{Kind: api.KProp, Name: "abcdefghijklmnopq"}},
	} {
		if Text(l) != "" || Nest(l) != 0 {
			t.Error(i, Text(l), Nest(l))
		}
	}
}

// tall is over with the first place alone, for lists that are too long to be joined node by node.
func tall(kind, times int) list {
	l := leaf(kidsReg(kind))
	for range times {
		n := api.Node{Kind: kind, Kids: []int{len(l) - 1}}
		if isTimed(kind) {
			n.Span.Hi = api.NoEnd
		}
		if len(sorts[kind].least) == 2 {
			n.Kids = append(n.Kids, len(l))
			l = append(l, leaf(kidsReg(kind))...)
		}
		l = append(l, n)
	}
	return l
}

// R3: lists far deeper than a text may be, and far longer.
func TestGreatLists(t *testing.T) {
	const most = 1 << 16
	for kind, word := range map[int]string{api.KNot: "!", api.KOnce: "once ", api.KAll: "all "} {
		shows(t, tall(kind, most), strings.Repeat(word, most)+"p", most)
	}
	shows(t, tall(api.KMany, most), "."+strings.Repeat("*", most), 0)
	shows(t, tall(api.KAnd, most), "p"+strings.Repeat(" & p", most), 0)
	shows(t, tall(api.KSince, most), "p"+strings.Repeat(" since p", most), 0)
	// To the right: all the leaves come first, and then all that stands on them.
	l := list{}
	for range most + 1 {
		l = append(l, leaf(true)...)
	}
	for k := range most {
		l = append(l, api.Node{Kind: api.KSeq, Kids: []int{most - 1 - k, len(l) - 1}})
	}
	shows(t, l, strings.Repeat(". ; (", most-1)+". ; ."+strings.Repeat(")", most-1), most-1)
	l = leaf(false)
	for range most / 2 {
		l = append(l, api.Node{Kind: api.KTest, Kids: []int{len(l) - 1}}, api.Node{Kind: api.KFore, Kids: []int{len(l)}, Span: api.Span{Hi: 7}})
	}
	shows(t, l, strings.Repeat("fore[0,7] {?", most/2)+"p"+strings.Repeat("}", most/2), most)
}

// R2, R8: a list is left as it was, and has the same text each time.
func TestLeftAlone(t *testing.T) {
	r := rand.New(rand.NewSource(72))
	for range 100 {
		l := grown(r, r.Intn(2) == 0, 1+r.Intn(30))
		was := tree.Part(l, len(l)-1)
		text, deep := Text(l), Nest(l)
		if !tree.Same(l, was) || Text(was) != text || Nest(was) != deep || Text(l) != text || Nest(l) != deep {
			t.Error(text, deep)
		}
	}
}
