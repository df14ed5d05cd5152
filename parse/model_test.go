package parse

import (
	"math/rand"
	"slices"
	"strconv"
	"strings"

	"watchglass/api"
)

// grammar is the chapter's, rule by rule and choice by choice, with repetitions as rules of their own. Of the symbols, `@` makes a node of a kind, `#` a node of a kind that has a span, `low` is a span that is missing, and `up` ends what a nesting token began; `name` and `num` are any of those, and the others are tokens as they are written.
var grammar = map[string]string{
	"form":  "or forms",
	"forms": "/ -> or @KImp forms",
	"or":    "and ors",
	"ors":   "/ | and @KOr ors",
	"and":   "tie ands",
	"ands":  "/ & tie @KAnd ands",
	"tie":   "un ties",
	"ties":  "/ since span un #KSince ties / until span un #KUntil ties",
	"un": "! un up @KNot / prev span un up #KPrev / next span un up #KNext / once span un up #KOnce / hist span un up #KHist" +
		" / some span un up #KSome / all span un up #KAll / prim",
	"prim": "true @KTrue / false @KFalse / name @KProp / ( form ) up / back span { reg } up #KBack / fore span { reg } up #KFore",
	"reg":  "seq regs",
	"regs": "/ + seq @KAlt regs",
	"seq":  "rep seqs",
	"seqs": "/ ; rep @KSeq seqs",
	"rep":  "one reps",
	"reps": "/ * @KMany reps",
	"one":  ". @KStep / ? un up @KTest / ( reg ) up",
	"span": "low / [ num , last ]",
	"last": "num / *",
}

// kindOf is each kind by its name, and how many children it has.
var kindOf = map[string][2]int{
	"KTrue": {api.KTrue, 0}, "KFalse": {api.KFalse, 0}, "KProp": {api.KProp, 0}, "KNot": {api.KNot, 1}, "KAnd": {api.KAnd, 2}, "KOr": {api.KOr, 2}, "KImp": {api.KImp, 2},
	"KPrev": {api.KPrev, 1}, "KNext": {api.KNext, 1}, "KOnce": {api.KOnce, 1}, "KHist": {api.KHist, 1}, "KSome": {api.KSome, 1}, "KAll": {api.KAll, 1},
	"KSince": {api.KSince, 2}, "KUntil": {api.KUntil, 2}, "KBack": {api.KBack, 1}, "KFore": {api.KFore, 1},
	"KStep": {api.KStep, 0}, "KTest": {api.KTest, 1}, "KAlt": {api.KAlt, 2}, "KSeq": {api.KSeq, 2}, "KMany": {api.KMany, 1},
}

// nesting and creating are the tokens that the chapter lists for ErrDeep and for ErrMany, but for names and stars.
var (
	nesting  = strings.Fields("( { ! ? prev next once hist some all")
	creating = strings.Fields("true false ! & | -> prev next once hist some all since until back fore . ? + ;")
	taken    = strings.Fields("true false prev next once hist some all since until back fore")
)

// way is one way in which the tokens read so far may be a beginning of a text: the symbols that are to come, the last one first, and what was made.
type way struct {
	todo  []string
	out   []api.Node
	roots []int
	ends  []int // of spans, the last one last
	name  string
}

func (w way) copied() way {
	w.todo, w.out, w.roots, w.ends = slices.Clone(w.todo), slices.Clone(w.out), slices.Clone(w.roots), slices.Clone(w.ends)
	return w
}

// model reads tokens by the grammar.
type model struct {
	ways []way
	made int
}

func newModel(start string) model { return model{ways: settled(way{todo: []string{start}})} }

// settled is all ways that begin with a token, or have nothing to come.
func settled(w way) []way {
	for len(w.todo) > 0 {
		top := w.todo[len(w.todo)-1]
		rest := w.todo[:len(w.todo)-1]
		if rule, ok := grammar[top]; ok {
			out := []way{}
			for _, choice := range strings.Split(rule, "/") {
				x := w.copied()
				symbols := strings.Fields(choice)
				slices.Reverse(symbols)
				x.todo = append(x.todo[:len(rest)], symbols...)
				out = append(out, settled(x)...)
			}
			return out
		}
		switch {
		case top == "low":
			w.ends = append(w.ends, 0, -1)
		case top[0] == '@' || top[0] == '#':
			w.build(top)
		case top != "up":
			return []way{w}
		}
		w.todo = rest
	}
	return []way{w}
}

// build makes a node.
func (w *way) build(symbol string) {
	kind := kindOf[symbol[1:]]
	n := api.Node{Kind: kind[0]}
	if symbol[0] == '#' {
		n.Span = api.Span{Lo: w.ends[len(w.ends)-2], Hi: w.ends[len(w.ends)-1]}
		w.ends = w.ends[:len(w.ends)-2]
	}
	if n.Kind == api.KProp {
		n.Name = w.name
	}
	n.Kids = slices.Clone(w.roots[len(w.roots)-kind[1]:])
	w.roots = append(w.roots[:len(w.roots)-kind[1]], len(w.out))
	w.out = append(w.out, n)
}

// reads is what the way makes of a token, or nothing.
func (w way) reads(tok string) []way {
	if len(w.todo) == 0 || tok == "" {
		return nil
	}
	want := w.todo[len(w.todo)-1]
	num, err := strconv.Atoi(tok)
	isName := err != nil && tok[0] >= 'a' && tok[0] <= 'z' && !slices.Contains(taken, tok)
	inSpan := len(w.todo) > 1 && w.todo[len(w.todo)-2] == "]"
	switch {
	case want == "num" && err == nil && (!inSpan || num >= w.ends[len(w.ends)-1]):
	case want == "name" && isName, want == tok:
	default:
		return nil
	}
	w = w.copied()
	w.todo = w.todo[:len(w.todo)-1]
	switch {
	case want == "num":
		w.ends = append(w.ends, num)
	case inSpan:
		w.ends = append(w.ends, -1)
	case isName:
		w.name = tok
	}
	return settled(w)
}

// deep is how many nesting tokens have not all that belongs to them.
func (w way) deep() int {
	n := 0
	for _, s := range w.todo {
		if s == "up" {
			n++
		}
	}
	return n
}

// reads is the model after a token, or why it is wrong.
func (m model) reads(tok string) (model, api.Errno) {
	ways, deep, inSpan := []way{}, false, false
	for _, w := range m.ways {
		got := w.reads(tok)
		if len(got) == 0 {
			continue
		}
		ways = append(ways, got...)
		deep = deep || slices.Contains(nesting, tok) && w.deep() > 40
		inSpan = inSpan || len(w.todo) > 1 && w.todo[len(w.todo)-2] == "]"
	}
	_, err := strconv.Atoi(tok)
	isName := tok != "" && tok[0] >= 'a' && tok[0] <= 'z' && err != nil && !slices.Contains(taken, tok)
	made := m.made
	if slices.Contains(creating, tok) || isName || tok == "*" && !inSpan {
		made++
	}
	switch {
	case len(ways) == 0:
		return model{}, api.ErrForm
	case deep:
		return model{}, api.ErrDeep
	case made > 200:
		return model{}, api.ErrMany
	}
	return model{ways, made}, api.OK
}

// whole is what a whole text says, if it may end here.
func (m model) whole() ([]api.Node, bool) {
	for _, w := range m.ways {
		if len(w.todo) == 0 {
			return w.out, true
		}
	}
	return nil, false
}

// told is what the model says of a text of tokens, each with a blank behind it.
func told(start string, toks []string) ([]api.Node, int, api.Errno) {
	m, at := newModel(start), 0
	for _, tok := range toks {
		next, e := m.reads(tok)
		if e != api.OK {
			return nil, at, e
		}
		m, at = next, at+len(tok)+1
	}
	if l, ok := m.whole(); ok {
		return l, 0, api.OK
	}
	return nil, at, api.ErrForm
}

// alphabet is one token or more of each kind that a formula's text may have.
var alphabet = strings.Fields("true false p q_1 ( ) ! & | -> prev next once hist some all since until back fore { } . ? + ; * [ ] , 0 7 9999")

// styles are tokens of which long texts, or deep ones, come easily.
var styles = [][]string{
	alphabet, strings.Fields("! ( once hist fore { ? ( !"), strings.Fields("back { ? { ( p ; ."), strings.Fields("p true & | -> since until"),
	strings.Fields(". ; + * ?"), strings.Fields("! p & ( )"), strings.Fields("p & p | ( ) } . ; * all"),
}

// sentence is random tokens, each of which may follow those ahead of it, but for the last one now and then.
func sentence(r *rand.Rand, start string, tries int) []string {
	m, toks := newModel(start), []string{}
	style := styles[r.Intn(len(styles))]
	stuck := 0
	for range tries {
		from := style
		if stuck > 8 {
			from = alphabet
		}
		tok := from[r.Intn(len(from))]
		next, e := m.reads(tok)
		stuck++
		switch {
		case e == api.OK:
			m, toks, stuck = next, append(toks, tok), 0
		case e == api.ErrForm && r.Intn(2000) == 0, e != api.ErrForm && r.Intn(3) == 0:
			return append(toks, tok)
		}
	}
	return toks
}

// closed is tokens with what ends all that they leave open.
func closed(start string, toks []string) []string {
	m := newModel(start)
	for _, tok := range toks {
		next, e := m.reads(tok)
		if e != api.OK {
			return toks
		}
		m = next
	}
	toks = slices.Clone(toks)
	for range 400 {
		if _, ok := m.whole(); ok {
			return toks
		}
		for _, tok := range []string{")", "}", "]", "p", ".", "{", ",", "9999"} {
			if next, e := m.reads(tok); e == api.OK {
				m, toks = next, append(toks, tok)
				break
			}
		}
	}
	return toks
}
