package sugar

import (
	"math"
	"math/rand"
	"slices"
	"strings"
	"testing"
	"unsafe"

	"watchglass/api"
	"watchglass/parse"
	"watchglass/sat"
	"watchglass/show"
	"watchglass/tree"
)

// agrees fails unless Plain answers what the model does, which is what P16.2 says of it, and leaves l as it is.
func agrees(t *testing.T, l list) {
	t.Helper()
	before := copied(l)
	got, want := Plain(l), model(l, len(l)-1)
	if !alike(got, want) {
		t.Fatalf("Plain(%v) = %v, want %v", l, got, want)
	}
	if !tree.Plain(got) || tree.Form(got) != tree.Form(l) || len(got) > 7*len(l) {
		t.Fatalf("Plain(%v) = %v is not plain, or of another sort, or too long", l, got)
	}
	if tree.Plain(l) != alike(got, l) || !alike(Plain(got), got) {
		t.Fatalf("Plain(%v) = %v", l, got)
	}
	if !alike(l, before) {
		t.Fatalf("%v became %v", before, l)
	}
}

// P16.1: each row of the table, by the formulas' texts.
func TestKnown(t *testing.T) {
	for s, want := range map[string]string{
		"true": "true", "false": "false", "p": "p", "!p": "!p", "p & q": "p & q", "p | q": "p | q",
		"p -> q":         "!p | q",
		"prev[2,5] p":    "back[2,5] {?p ; .}",
		"next[2,5] p":    "fore[2,5] {. ; ?p}",
		"once[2,5] p":    "back[2,5] {?p ; .*}",
		"some[2,5] p":    "fore[2,5] {.* ; ?p}",
		"hist[2,5] p":    "!back[2,5] {?!p ; .*}",
		"all[2,5] p":     "!fore[2,5] {.* ; ?!p}",
		"p since[2,5] q": "back[2,5] {?q ; (. ; ?p)*}",
		"p until[2,5] q": "fore[2,5] {(?p ; .)* ; ?q}",

		"prev p": "back {?p ; .}", "next[0,0] p": "fore[0,0] {. ; ?p}", "once[9999,*] p": "back[9999,*] {?p ; .*}", "p until[9999,9999] q": "fore[9999,9999] {(?p ; .)* ; ?q}",
		"back {. ; ?p*}": "back {. ; ?p*}", "fore[3,*] {(?p + .)*}": "fore[3,*] {(?p + .)*}",
		"back {?once p ; .}":      "back {?back {?p ; .*} ; .}",
		"!(p -> q -> r)":          "!(!(!p | q) | r)",
		"(p -> q) since (r -> s)": "back {?(!r | s) ; (. ; ?(!p | q))*}",
		"hist all p":              "!back {?!!fore {.* ; ?!p} ; .*}",
	} {
		l, at, no := parse.Parse(s)
		if no != api.OK {
			t.Fatal(s, at, no)
		}
		wanted, at, no := parse.Parse(want)
		if no != api.OK {
			t.Fatal(want, at, no)
		}
		if got := Plain(l); !alike(got, wanted) {
			t.Errorf("%s became %s, want %s", s, show.Text(got), want)
		}
	}
}

// P16.1: regular expressions keep their nodes beside the formulas in their tests.
func TestKnownRegs(t *testing.T) {
	for s, want := range map[string]string{
		".": ".", "?p": "?p", ". + ?q": ". + ?q", "(. ; ?p)*": "(. ; ?p)*",
		"?prev p":                   "?back {?p ; .}",
		"(?(p -> q) + .)* ; ?all p": "(?(!p | q) + .)* ; ?!fore {.* ; ?!p}",
	} {
		l, at, no := parse.Regex(s)
		if no != api.OK {
			t.Fatal(s, at, no)
		}
		if got := show.Text(Plain(l)); got != want {
			t.Errorf("%s became %s, want %s", s, got, want)
		}
	}
}

// P16.1, P16.2: all small lists.
func TestSmall(t *testing.T) {
	forms, regs := shapes(4)
	for n := range forms {
		for _, l := range append(forms[n], regs[n]...) {
			agrees(t, l)
		}
	}
}

// P16.1, P16.2: random lists, plain ones among them.
func TestRandom(t *testing.T) {
	r := rand.New(rand.NewSource(161))
	for i := range 6000 {
		may := anyKind
		if i%4 == 0 {
			may = plainKind
		}
		agrees(t, anyList(r, r.Intn(3) == 0, 1+r.Intn(8), may))
	}
}

// P16.1: the order of what lies below a node that changes places, and intervals of every sort.
func TestOrder(t *testing.T) {
	r := rand.New(rand.NewSource(162))
	for _, k := range shorts {
		for range 60 {
			s := api.Span{}
			if hasSpan(k) {
				s = anySpan(r)
			}
			kids := []list{}
			for range kidsOf[k] {
				kids = append(kids, anyList(r, false, 1+r.Intn(5), anyKind))
			}
			agrees(t, timed(k, s, kids...))
			agrees(t, kind(api.KTest, timed(k, s, kids...)))
		}
	}
}

// same fails unless the formula l and what it becomes are both true at the same points of x.
func same(t *testing.T, x api.Trace, l list) {
	t.Helper()
	got, want := sat.All(x, Plain(l)), sat.All(x, l)
	if !slices.Equal(got, want) || len(want) != len(x.Events) {
		t.Fatalf("%s over %v: %v, but %s: %v", show.Text(l), x, want, show.Text(Plain(l)), got)
	}
}

// P16.2: the same truth at every point: small formulas.
func TestSmallTruth(t *testing.T) {
	r := rand.New(rand.NewSource(163))
	forms, _ := shapes(4)
	for n := range forms {
		for _, l := range forms[n] {
			for range 1 + 100/(n*n*n*n) {
				same(t, anyTrace(r, r.Intn(7), 2), l)
			}
		}
	}
}

// P16.2: the same truth at every point: random formulas, and regular expressions below KBack and KFore.
func TestRandomTruth(t *testing.T) {
	r := rand.New(rand.NewSource(164))
	for range 3000 {
		same(t, anyTrace(r, r.Intn(12), 1+r.Intn(4)), anyList(r, false, 1+r.Intn(4), anyKind))
		x, reg, s := anyTrace(r, r.Intn(9), 1+r.Intn(4)), anyList(r, true, 1+r.Intn(5), anyKind), anySpan(r)
		for _, k := range []int{api.KBack, api.KFore} {
			same(t, x, timed(k, s, reg))
			if !slices.Equal(sat.All(x, timed(k, s, Plain(reg))), sat.All(x, timed(k, s, reg))) {
				t.Fatalf("%v over %v", reg, x)
			}
		}
	}
}

// P16.2: seven times as many nodes at most; a chain of the kinds that become most nodes comes near to that.
func TestSizes(t *testing.T) {
	for k, more := range map[int]int{
		api.KNot: 1, api.KPrev: 4, api.KNext: 4, api.KOnce: 5, api.KSome: 5, api.KHist: 7, api.KAll: 7,
	} {
		l := prop("p")
		for levels := range 50 {
			if got := len(Plain(l)); got != 1+levels*more {
				t.Errorf("kind %d, %d levels: %d nodes", k, levels, got)
			}
			l = kindOf(k, l)
		}
	}
	for k, more := range map[int]int{api.KAnd: 1, api.KOr: 1, api.KImp: 2, api.KSince: 7, api.KUntil: 7} {
		l := prop("p")
		for levels := range 50 {
			if got := len(Plain(l)); got != 1+levels*(more+1) {
				t.Errorf("kind %d, %d levels: %d nodes", k, levels, got)
			}
			l = kindOf(k, l, prop("q"))
		}
	}
}

// kindOf is a node over these lists, with an interval if its kind asks for one.
func kindOf(k int, kids ...list) list {
	s := api.Span{}
	if hasSpan(k) {
		s = api.Span{Lo: 0, Hi: api.NoEnd}
	}
	return timed(k, s, kids...)
}

// P16.1: nothing for lists that are no formula and no regular expression.
func TestWrong(t *testing.T) {
	all := api.Span{Lo: 0, Hi: api.NoEnd}
	p := api.Node{Kind: api.KProp, Name: "p"}
	step := api.Node{Kind: api.KStep}
	for i, l := range []list{
		nil, {}, {{}}, {{Kind: api.KNot}}, {{Kind: -1}}, {{Kind: math.MaxInt}}, {{Kind: math.MinInt}}, {{Kind: api.KMany + 1}},
		{p, p}, {p, {Kind: api.KNot}}, {p, {Kind: api.KNot, Kids: []int{1}}}, {p, {Kind: api.KNot, Kids: []int{-1}}}, {{Kind: api.KNot, Kids: []int{0}}}, {{Kind: api.KNot, Kids: []int{1}}, p},
		{p, p, {Kind: api.KImp, Kids: []int{1, 0}}}, {p, p, {Kind: api.KImp, Kids: []int{1}}}, {p, {Kind: api.KImp, Kids: []int{0, 0}}}, {p, p, {Kind: api.KImp, Kids: []int{0, 1}, Span: all}},
		{p, p, {Kind: api.KSince, Span: all, Kids: []int{0, 0}}}, {p, p, {Kind: api.KUntil, Span: api.Span{Lo: 2, Hi: 1}, Kids: []int{0, 1}}},
		{p, {Kind: api.KPrev, Kids: []int{0}, Span: api.Span{Lo: -1, Hi: 1}}}, {p, {Kind: api.KPrev, Kids: []int{0}, Span: api.Span{Lo: 0, Hi: 10000}}}, {p, {Kind: api.KOnce, Kids: []int{0}, Name: "p", Span: all}},
		{p, {Kind: api.KOnce, Kids: []int{0}, Span: api.Span{Lo: 0, Hi: -2}}}, {p, {Kind: api.KHist, Kids: []int{math.MaxInt}, Span: all}},
		{step, {Kind: api.KOnce, Kids: []int{0}, Span: all}}, {p, {Kind: api.KBack, Kids: []int{0}, Span: all}}, {step, {Kind: api.KTest, Kids: []int{0}}}, {p, {Kind: api.KMany, Kids: []int{0}}},
		{{Kind: api.KProp}}, {{Kind: api.KProp, Name: "P"}}, {{Kind: api.KProp, Name: "until"}}, {{Kind: api.KTrue, Name: "p"}}, {{Kind: api.KTrue, Span: all}}, {{Kind: api.KTrue, Kids: []int{0}}},
	} {
		if got := Plain(l); len(got) > 0 {
			t.Errorf("%d: Plain(%v) = %v", i, l, got)
		}
	}
}

// spoil changes something in a list, often so that it is not valid any more.
func spoil(r *rand.Rand, l list) list {
	l = copied(l)
	i, k := r.Intn(len(l)), r.Intn(len(l))
	n := &l[i]
	switch r.Intn(9) {
	case 0:
		n.Kind = r.Intn(api.KMany + 2)
	case 1:
		n.Name = []string{"", "p", "true", "P", "a b", "abcdefghijklmnopq"}[r.Intn(6)]
	case 2:
		n.Span = api.Span{Lo: []int{-1, 0, 4, 10000}[r.Intn(4)], Hi: []int{-2, -1, 0, 3, 4, 10000}[r.Intn(6)]}
	case 3:
		n.Kids = append(n.Kids, k)
	case 4:
		if len(n.Kids) > 0 {
			n.Kids[r.Intn(len(n.Kids))] = []int{k, -1, len(l), math.MinInt, math.MaxInt}[r.Intn(5)]
		}
	case 5:
		l[i], l[k] = l[k], l[i]
	case 6:
		l = slices.Insert(l, i, l[k])
	case 7:
		l = slices.Delete(l, i, i+1)
	case 8:
		slices.Reverse(n.Kids)
	}
	return l
}

// P16.1: lists that are nearly valid.
func TestSpoiled(t *testing.T) {
	r := rand.New(rand.NewSource(165))
	wrong := 0
	for range 8000 {
		l := spoil(r, anyList(r, r.Intn(3) == 0, 1+r.Intn(5), anyKind))
		if tree.May(l) {
			agrees(t, l)
			continue
		}
		wrong++
		if got := Plain(l); len(got) > 0 {
			t.Fatalf("Plain(%v) = %v", l, got)
		}
	}
	if wrong < 2000 {
		t.Error(wrong)
	}
}

// ints are all places of a list's memory of numbers.
func ints(l list) map[*int]bool {
	out := map[*int]bool{}
	for _, n := range l {
		kids := n.Kids[:cap(n.Kids)]
		for k := range kids {
			out[&kids[k]] = true
		}
	}
	return out
}

// R2: what is answered shares no memory with the argument, and no two of its lists share any.
func TestOwn(t *testing.T) {
	r := rand.New(rand.NewSource(166))
	for range 500 {
		l := anyList(r, r.Intn(3) == 0, 1+r.Intn(6), anyKind)
		for i := range l {
			l[i].Name = strings.Clone(l[i].Name)
		}
		got := Plain(l)
		count := 0
		for _, n := range got {
			count += cap(n.Kids)
		}
		own, given := ints(got), ints(l)
		if len(own) != count {
			t.Fatalf("lists of Plain(%v) share memory", l)
		}
		for at := range own {
			if given[at] {
				t.Fatalf("Plain(%v) shares memory with it", l)
			}
		}
		for _, n := range got {
			for _, m := range l {
				if n.Name != "" && unsafe.StringData(n.Name) == unsafe.StringData(m.Name) {
					t.Fatalf("Plain(%v) shares a name with it", l)
				}
			}
		}
		again := Plain(l)
		for i := range got {
			got[i].Kind = 0
			for k := range got[i].Kids {
				got[i].Kids[k] = -7
			}
		}
		if !alike(Plain(l), again) {
			t.Fatalf("Plain(%v) is kept", l)
		}
	}
}

// chain is a node of a kind over another one and so on, levels times, with q at its left or right if there are two children.
func chain(k, levels int, left bool) list {
	l := list{{Kind: api.KProp, Name: "p"}}
	q := api.Node{Kind: api.KProp, Name: "q"}
	if isReg(k) || kidsReg(k) {
		l[0] = api.Node{Kind: api.KStep}
		q = api.Node{Kind: api.KStep}
	}
	root := api.Node{Kind: k}
	if hasSpan(k) {
		root.Span = api.Span{Lo: 1, Hi: 3}
	}
	if kidsOf[k] == 2 && left {
		l = slices.Repeat(list{q}, levels)
		l = append(l, api.Node{Kind: q.Kind, Name: q.Name})
	}
	for range levels {
		top := len(l) - 1
		switch {
		case kidsOf[k] == 1:
			root.Kids = []int{top}
		case left:
			// The nodes q stand ahead of all others, so that the next one of them is the left child.
			root.Kids = []int{2*levels - top - 1, top}
		default:
			l = append(l, q)
			root.Kids = []int{top, top + 1}
		}
		l = append(l, root)
	}
	return l
}

// P16.1, P16.2: 2^16 levels, to the left and to the right.
func TestDeep(t *testing.T) {
	levels := 1 << 16
	for k := api.KNot; k <= api.KMany; k++ {
		if kidsOf[k] == 0 || k == api.KTest || k == api.KBack || k == api.KFore {
			continue
		}
		for _, left := range []bool{false, true} {
			l := chain(k, levels, left)
			if !tree.May(l) {
				t.Fatalf("kind %d: the test's list is not valid", k)
			}
			got := Plain(l)
			if !tree.Plain(got) || tree.Form(got) != tree.Form(l) || len(got) > 7*len(l) || slices.Contains(shorts, k) == (len(got) == len(l)) {
				t.Errorf("kind %d, left %v: %d nodes, from %d", k, left, len(got), len(l))
			}
		}
	}
}

// P16.1: the model's answer for long chains too.
func TestLong(t *testing.T) {
	for k := api.KNot; k <= api.KMany; k++ {
		if kidsOf[k] == 0 || k == api.KTest || k == api.KBack || k == api.KFore {
			continue
		}
		agrees(t, chain(k, 150, false))
		agrees(t, chain(k, 150, true))
	}
}

// P16.1: many nodes at a small depth.
func TestWide(t *testing.T) {
	l := prop("p")
	for i := range 17 {
		l = over(api.Node{Kind: []int{api.KSince, api.KUntil, api.KImp}[i%3], Span: []api.Span{{Hi: api.NoEnd}, {Lo: 3, Hi: 5}, {}}[i%3]}, l, l)
	}
	got := Plain(l)
	if !tree.Plain(got) || len(got) <= len(l) || len(got) > 7*len(l) {
		t.Errorf("%d nodes from %d", len(got), len(l))
	}
}
