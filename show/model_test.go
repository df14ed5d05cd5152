package show

import (
	"math/rand"
	"slices"
	"strconv"
	"strings"

	"watchglass/api"
	"watchglass/lex"
	"watchglass/tree"
)

type list = []api.Node

// sort is a kind as the chapter speaks of it: its rank, how its text is made of those of its children (a and b), and for a child of each place the rank below which it stands in parentheses.
type sort struct {
	rank  int
	text  string
	least []int
}

// sorts are all kinds. Of the texts, % is the span.
var sorts = map[int]sort{
	api.KImp: {1, "a -> b", []int{1, 2}}, api.KOr: {2, "a | b", []int{2, 3}}, api.KAnd: {3, "a & b", []int{3, 4}},
	api.KSince: {4, "a since% b", []int{4, 5}}, api.KUntil: {4, "a until% b", []int{4, 5}},
	api.KNot: {5, "!a", []int{5}}, api.KPrev: {5, "prev% a", []int{5}}, api.KNext: {5, "next% a", []int{5}}, api.KOnce: {5, "once% a", []int{5}},
	api.KHist: {5, "hist% a", []int{5}}, api.KSome: {5, "some% a", []int{5}}, api.KAll: {5, "all% a", []int{5}},
	api.KTrue: {6, "true", nil}, api.KFalse: {6, "false", nil}, api.KProp: {6, "", nil},
	api.KBack: {6, "back% {a}", []int{0}}, api.KFore: {6, "fore% {a}", []int{0}},
	api.KAlt: {1, "a + b", []int{1, 2}}, api.KSeq: {2, "a ; b", []int{2, 3}}, api.KMany: {3, "a*", []int{3}},
	api.KStep: {4, ".", nil}, api.KTest: {4, "?a", []int{5}},
}

// kinds are all of them, ascending.
func kinds() []int {
	l := []int{}
	for kind := range sorts {
		l = append(l, kind)
	}
	slices.Sort(l)
	return l
}

// isReg tells whether a kind is one of regular expressions.
func isReg(kind int) bool { return kind >= api.KStep }

// kidsReg tells whether the children of a kind are regular expressions.
func kidsReg(kind int) bool {
	return isReg(kind) && kind != api.KTest || kind == api.KBack || kind == api.KFore
}

// isTimed tells whether a kind has a span.
func isTimed(kind int) bool { return kind >= api.KPrev && kind <= api.KFore }

// told is the text of a list as the chapter's words have it.
func told(l list) string {
	n := l[len(l)-1]
	if n.Kind == api.KProp {
		return n.Name
	}
	text, kids := sorts[n.Kind].text, []string{}
	for place, i := range n.Kids {
		kid := told(tree.Part(l, i))
		if sorts[l[i].Kind].rank < sorts[n.Kind].least[place] {
			kid = "(" + kid + ")"
		}
		kids = append(kids, kid)
	}
	if isTimed(n.Kind) {
		text = strings.Replace(text, "%", spanTold(n.Span), 1)
	}
	return put(text, kids)
}

// spanTold is a span as it stands behind its word.
func spanTold(s api.Span) string {
	lo, hi := strconv.Itoa(s.Lo), strconv.Itoa(s.Hi)
	switch {
	case s.Lo == 0 && s.Hi == -1:
		return ""
	case s.Hi == -1:
		return "[" + lo + ",*]"
	}
	return "[" + lo + "," + hi + "]"
}

// put is a text with those of the children in the places of the letters a and b that stand alone.
func put(text string, kids []string) string {
	out := ""
	for i := range len(text) {
		alone := (i == 0 || text[i-1] < 'a' || text[i-1] > 'z') && (i == len(text)-1 || text[i+1] < 'a' || text[i+1] > 'z')
		switch {
		case text[i] == 'a' && alone:
			out += kids[0]
		case text[i] == 'b' && alone:
			out += kids[1]
		default:
			out += string(text[i])
		}
	}
	return out
}

// nested is the greatest nesting depth of a text's tokens, as chapter 6 counts it.
func nested(text string) int {
	toks, _, _ := lex.Lex(text)
	open, deepest := []string{}, 0
	for _, tok := range toks {
		word := tok.Text
		switch {
		case slices.Contains(strings.Fields("( { ! ? prev next once hist some all"), word):
			open = append(open, word)
			deepest = max(deepest, len(open))
			continue
		case word == ")", word == "}":
			open = open[:len(open)-1]
		case word != "." && word != "true" && word != "false" && !lex.Name(word):
			continue
		}
		// An operand ends here, and with it what stands directly ahead of it.
		for len(open) > 0 && open[len(open)-1] != "(" && open[len(open)-1] != "{" {
			open = open[:len(open)-1]
		}
	}
	return deepest
}

// spans are valid ones, with those of which no text tells, or which nearly are.
var spans = []api.Span{{Lo: 0, Hi: -1}, {Lo: 0, Hi: -1}, {Lo: 0, Hi: 0}, {Lo: 1, Hi: -1}, {Lo: 2, Hi: 5}, {Lo: 0, Hi: 9999}, {Lo: 9999, Hi: 9999}, {Lo: 9999, Hi: -1}}

// grown is a random valid list with so many nodes, or one more.
func grown(r *rand.Rand, reg bool, nodes int) list {
	choice := []int{}
	for _, kind := range kinds() {
		if isReg(kind) == reg && (len(sorts[kind].least) == 0) == (nodes <= 1) {
			choice = append(choice, kind)
		}
	}
	n := api.Node{Kind: choice[r.Intn(len(choice))]}
	if n.Kind == api.KProp {
		n.Name = []string{"p", "q", "p_1", "truer", "abcdefghijklmnop"}[r.Intn(5)]
	}
	if isTimed(n.Kind) {
		n.Span = spans[r.Intn(len(spans))]
	}
	kids := []list{}
	rest := nodes - 1
	for place := range sorts[n.Kind].least {
		part := rest
		if place == 0 && len(sorts[n.Kind].least) == 2 {
			part = 1 + r.Intn(max(rest-1, 1))
		}
		rest -= part
		kids = append(kids, grown(r, kidsReg(n.Kind), part))
	}
	return tree.Join(n, kids...)
}
