package parse

import (
	"math/rand"
	"slices"
	"strings"
	"testing"

	"watchglass/api"
	"watchglass/tree"
)

type list = []api.Node

// readers are both calls, by the rule with which their texts begin.
var readers = map[string]func(string) (list, int, api.Errno){"form": Parse, "reg": Regex}

// alike tells whether two lists are equal, field by field.
func alike(a, b list) bool {
	return slices.EqualFunc(a, b, func(x, y api.Node) bool {
		return x.Kind == y.Kind && x.Name == y.Name && x.Span == y.Span && slices.Equal(x.Kids, y.Kids)
	})
}

// asks checks a text of tokens against the model, and what is right of every result.
func asks(t *testing.T, start string, toks []string) api.Errno {
	t.Helper()
	text := ""
	for _, tok := range toks {
		text += tok + " "
	}
	want, wantAt, wantE := told(start, toks)
	got, at, e := readers[start](text)
	if e != wantE || at != wantAt || !alike(got, want) {
		t.Errorf("%s %q: %v, %d, %v, not %v, %d, %v", start, text, got, at, e, want, wantAt, wantE)
	}
	may := tree.Form
	if start == "reg" {
		may = tree.Reg
	}
	if (e == api.OK) != may(got) || len(got) > api.MaxNodes || e != api.OK && len(got) > 0 {
		t.Errorf("%s %q: %v, of %d nodes, beside %v", start, text, got, len(got), e)
	}
	return e
}

// short checks all texts that begin with some tokens, up to a number of tokens more, and leaves out what follows a wrong one.
func short(t *testing.T, start string, tokens, toks []string, more int, seen map[api.Errno]int) {
	e := asks(t, start, toks)
	seen[e]++
	if more == 0 {
		return
	}
	m := newModel(start)
	for _, tok := range toks {
		next, e := m.reads(tok)
		if e != api.OK {
			return
		}
		m = next
	}
	for _, tok := range tokens {
		short(t, start, tokens, append(slices.Clone(toks), tok), more-1, seen)
	}
}

// P6.1, P6.2: all short texts, of all tokens and of some that matter most to each other.
func TestShortTexts(t *testing.T) {
	seen := map[api.Errno]int{}
	for start := range readers {
		short(t, start, alphabet, nil, 3, seen)
		short(t, start, strings.Fields("p ( ) ! & since"), nil, 6, seen)
		short(t, start, strings.Fields("back { } . ? p"), nil, 7, seen)
		short(t, start, strings.Fields(". ; + * ( )"), nil, 6, seen)
		short(t, start, strings.Fields("? . * p once until -> |"), nil, 5, seen)
	}
	for _, begin := range []string{"once", "p since", "fore", "!"} {
		short(t, "form", strings.Fields("[ ] , * 0 3 5 p"), strings.Fields(begin), 5, seen)
		short(t, "form", strings.Fields("2 3 4 * ] p { ["), strings.Fields(begin+" [ 3 ,"), 3, seen)
	}
	if seen[api.OK] < 500 || seen[api.ErrForm] < 5000 {
		t.Error(seen)
	}
}

// P6.1 to P6.3: long random texts, ended and not, up to the limits.
func TestLongTexts(t *testing.T) {
	r := rand.New(rand.NewSource(6))
	seen := map[api.Errno]int{}
	for _, start := range []string{"form", "reg"} {
		for i := range 160 {
			toks := sentence(r, start, 1+r.Intn(100+1200*(i%2)))
			seen[asks(t, start, toks)]++
			whole := closed(start, toks)
			seen[asks(t, start, whole)]++
			for range 3 {
				seen[asks(t, start, spoilt(r, whole))]++
			}
		}
	}
	for _, e := range []api.Errno{api.OK, api.ErrForm, api.ErrDeep, api.ErrMany} {
		if seen[e] < 10 {
			t.Error(seen)
		}
	}
}

// spoilt is tokens with one changed, gone or twice.
func spoilt(r *rand.Rand, toks []string) []string {
	toks = slices.Clone(toks)
	if len(toks) == 0 {
		return toks
	}
	i := r.Intn(len(toks))
	switch r.Intn(3) {
	case 0:
		toks[i] = alphabet[r.Intn(len(alphabet))]
	case 1:
		return slices.Delete(toks, i, i+1)
	case 2:
		return slices.Insert(toks, i, alphabet[r.Intn(len(alphabet))])
	}
	return toks
}

// node is a list with a root on other lists.
func node(kind int, kids ...list) list { return tree.Join(api.Node{Kind: kind}, kids...) }

// timed is node with a span.
func timed(kind, lo, hi int, kids ...list) list {
	return tree.Join(api.Node{Kind: kind, Span: api.Span{Lo: lo, Hi: hi}}, kids...)
}

func prop(name string) list { return tree.Join(api.Node{Kind: api.KProp, Name: name}) }

// says fails if the texts are not read as those lists.
func says(t *testing.T, read func(string) (list, int, api.Errno), want map[string]list) {
	t.Helper()
	for text, l := range want {
		if got, at, e := read(text); e != api.OK || at != 0 || !tree.Same(got, l) {
			t.Errorf("%q: %v, %d, %v, not %v", text, got, at, e, l)
		}
	}
}

// P6.2: each token by itself as its kind.
func TestKinds(t *testing.T) {
	p, q, step := prop("p"), prop("q"), node(api.KStep)
	says(t, Parse, map[string]list{
		"true": node(api.KTrue), "false": node(api.KFalse), "p": p, "!p": node(api.KNot, p),
		"p & q": node(api.KAnd, p, q), "p | q": node(api.KOr, p, q), "p -> q": node(api.KImp, p, q),
		"prev p": timed(api.KPrev, 0, -1, p), "next p": timed(api.KNext, 0, -1, p), "once p": timed(api.KOnce, 0, -1, p),
		"hist p": timed(api.KHist, 0, -1, p), "some p": timed(api.KSome, 0, -1, p), "all p": timed(api.KAll, 0, -1, p),
		"p since q": timed(api.KSince, 0, -1, p, q), "p until q": timed(api.KUntil, 0, -1, p, q),
		"back{.}": timed(api.KBack, 0, -1, step), "fore{.}": timed(api.KFore, 0, -1, step),
		"truer": prop("truer"), "abcdefghijklmnop": prop("abcdefghijklmnop"), "back_": prop("back_"), "a0_": prop("a0_"),
	})
	says(t, Regex, map[string]list{
		".": step, "?p": node(api.KTest, p), ".+?p": node(api.KAlt, step, node(api.KTest, p)),
		".;?p": node(api.KSeq, step, node(api.KTest, p)), ".*": node(api.KMany, step), ".**": node(api.KMany, node(api.KMany, step)),
	})
}

// P6.2: spans at their ends, on each token that may have one.
func TestSpans(t *testing.T) {
	p, q, step := prop("p"), prop("q"), node(api.KStep)
	for text, x := range map[string][2]int{"[0,0]": {0, 0}, "[0,*]": {0, -1}, " [ 2 , 5 ] ": {2, 5}, "[5,5]": {5, 5}, "[9999,9999]": {9999, 9999}, "[9999,*]": {9999, -1}, "[0,9999]": {0, 9999}, "\n[\n7\n,\n8\n]": {7, 8}, "": {0, -1}} {
		lo, hi := x[0], x[1]
		says(t, Parse, map[string]list{
			"prev" + text + " p": timed(api.KPrev, lo, hi, p), "next" + text + " p": timed(api.KNext, lo, hi, p),
			"once" + text + " p": timed(api.KOnce, lo, hi, p), "hist" + text + " p": timed(api.KHist, lo, hi, p),
			"some" + text + " p": timed(api.KSome, lo, hi, p), "all" + text + " p": timed(api.KAll, lo, hi, p),
			"p since" + text + " q": timed(api.KSince, lo, hi, p, q), "p until" + text + " q": timed(api.KUntil, lo, hi, p, q),
			"back" + text + "{.}": timed(api.KBack, lo, hi, step), "fore" + text + "{.}": timed(api.KFore, lo, hi, step),
		})
	}
	inner, outer := timed(api.KBack, 3, 4, node(api.KTest, timed(api.KOnce, 5, -1, p))), "next[1,2] back[3,4] {?once[5,*]p} since[6,7] q"
	says(t, Parse, map[string]list{outer: timed(api.KSince, 6, 7, timed(api.KNext, 1, 2, inner), q)})
}

// P6.1: spans that are wrong, at the token that makes them so.
func TestWrongSpans(t *testing.T) {
	spans := map[string]int{
		"[": 1, "[]": 1, "[,]": 1, "[*,5]": 1, "[p,5]": 1, "[[": 1, "[2": 2, "[2]": 2, "[2*": 2, "[2 3]": 3,
		"[2,": 3, "[2,]": 3, "[2,,": 3, "[2,1]": 3, "[2,1": 3, "[2,1,": 3, "[2,0]": 3, "[9999,9998]": 6, "[2,p]": 3, "[1, 0]": 4,
		"[2,3": 4, "[2,3,": 4, "[2,3)": 4, "[2,3 4]": 5, "[2,*": 4, "[2,**]": 4, "[2,*,": 4,
		"[2,3][2,3]": 5, "[2,3]]": 5, "[2,3]*": 5, "[2,3]5": 5, "[2,3],": 5, "]": 0, "*": 0, ",": 0, " 5": 1,
	}
	for _, head := range []string{"prev", "next", "once", "hist", "some", "all", "p since", "p until", "back", "fore"} {
		tail := "p"
		if head == "back" || head == "fore" {
			tail = "{.}"
		}
		for span, at := range spans {
			wrong(t, Parse, head+span+tail, len(head)+at, api.ErrForm)
		}
		for _, span := range []string{"[", "[2", "[2,", "[2,3", "[2,*", "[2,3]", ""} {
			wrong(t, Parse, head+span, len(head+span), api.ErrForm)
		}
	}
	for text, at := range map[string]int{"![1,2]p": 1, "p[1,2]": 1, "true[1,2]": 4, "p &[1,2] q": 3, "p |[1,2] q": 3, "p ->[1,2] q": 4, "([1,2]p)": 1, "[1,2]p": 0, "back{.[1,2]}": 6, "back{?[1,2]p}": 6, "back{[1,2].}": 5, "back{.}[1,2]": 7} {
		wrong(t, Parse, text, at, api.ErrForm)
	}
}

// wrong fails if the text is not wrong at that place in that way.
func wrong(t *testing.T, read func(string) (list, int, api.Errno), text string, at int, e api.Errno) {
	t.Helper()
	if l, gotAt, gotE := read(text); gotAt != at || gotE != e || l != nil {
		t.Errorf("%q: %v, %d, %v, not %d, %v", text, l, gotAt, gotE, at, e)
	}
}

// operator is one between two operands, and how tightly it holds them.
type operator struct {
	text        string
	kind, level int
}

// mixed is a list of an operator on two others.
func mixed(x operator, a, b list) list {
	if x.kind == api.KSince || x.kind == api.KUntil {
		return timed(x.kind, 0, -1, a, b)
	}
	return node(x.kind, a, b)
}

// paired is a list of two operators in a row on three others.
func paired(x, y operator, a, b, c list) list {
	if x.level >= y.level {
		return mixed(y, mixed(x, a, b), c)
	}
	return mixed(x, a, mixed(y, b, c))
}

// P6.2: each pair of operators, left-associative, and the tighter one inside.
func TestPairs(t *testing.T) {
	forms := []operator{{"->", api.KImp, 1}, {"|", api.KOr, 2}, {"&", api.KAnd, 3}, {" since ", api.KSince, 4}, {" until ", api.KUntil, 4}}
	p, q, r := prop("p"), prop("q"), prop("r")
	notP, notQ, notNotR := node(api.KNot, p), node(api.KNot, q), node(api.KNot, node(api.KNot, r))
	for _, x := range forms {
		for _, y := range forms {
			text, want := "p"+x.text+"q"+y.text+"r", paired(x, y, p, q, r)
			says(t, Parse, map[string]list{
				text: want, "(" + text + ")": want, "!(" + text + ")": node(api.KNot, want),
				"p" + x.text + "(q" + y.text + "r)":   mixed(x, p, mixed(y, q, r)),
				"(p" + x.text + "q)" + y.text + "r":   mixed(y, mixed(x, p, q), r),
				"!p" + x.text + "!q" + y.text + "!!r": paired(x, y, notP, notQ, notNotR),
				"back{?(" + text + ");.}":             timed(api.KBack, 0, -1, node(api.KSeq, node(api.KTest, want), node(api.KStep))),
				text + y.text + "q":                   tripled(x, y, y, p, q, r, q),
				text + x.text + "q":                   tripled(x, y, x, p, q, r, q),
			})
		}
	}
}

// tripled is a list of three operators in a row, the last of which is one of the others, on four lists.
func tripled(x, y, z operator, a, b, c, d list) list {
	switch {
	case min(x.level, y.level) >= z.level:
		return mixed(z, paired(x, y, a, b, c), d)
	case x.level >= y.level:
		return mixed(y, mixed(x, a, b), mixed(z, c, d))
	}
	return mixed(x, a, paired(y, z, b, c, d))
}

// P6.2: each pair of operators between regular expressions.
func TestRegPairs(t *testing.T) {
	regs := []operator{{"+", api.KAlt, 1}, {";", api.KSeq, 2}}
	a, b, c := node(api.KStep), node(api.KTest, prop("q")), node(api.KMany, node(api.KStep))
	for _, x := range regs {
		for _, y := range regs {
			text, want := "."+x.text+"?q"+y.text+".*", paired(x, y, a, b, c)
			says(t, Regex, map[string]list{
				text: want, "(" + text + ")": want, "(" + text + ")*": node(api.KMany, want),
				"." + x.text + "(?q" + y.text + ".*)": mixed(x, a, mixed(y, b, c)),
				"(." + x.text + "?q)" + y.text + ".*": mixed(y, mixed(x, a, b), c),
			})
			says(t, Parse, map[string]list{"fore[1,2]{" + text + "}": timed(api.KFore, 1, 2, want)})
		}
	}
}

// P6.2: what belongs to a token ahead of its operand, and to a test.
func TestAhead(t *testing.T) {
	p, q, r, step := prop("p"), prop("q"), prop("r"), node(api.KStep)
	once := func(l list) list { return timed(api.KOnce, 0, -1, l) }
	says(t, Parse, map[string]list{
		"!p & q": node(api.KAnd, node(api.KNot, p), q), "!p since q": timed(api.KSince, 0, -1, node(api.KNot, p), q),
		"once p -> q": node(api.KImp, once(p), q), "once p until !q": timed(api.KUntil, 0, -1, once(p), node(api.KNot, q)),
		"!once!p | q": node(api.KOr, node(api.KNot, once(node(api.KNot, p))), q), "once(p | q)": once(node(api.KOr, p, q)),
		"p since once q since r": timed(api.KSince, 0, -1, timed(api.KSince, 0, -1, p, once(q)), r),
		"!back{.} & p":           node(api.KAnd, node(api.KNot, timed(api.KBack, 0, -1, step)), p),
		"p & q since r -> p":     node(api.KImp, node(api.KAnd, p, timed(api.KSince, 0, -1, q, r)), p),
		"((p)) ":                 p, "\n p \n": p,
		"fore{?fore{?p}*}": timed(api.KFore, 0, -1, node(api.KMany, node(api.KTest, timed(api.KFore, 0, -1, node(api.KTest, p))))),
	})
	says(t, Regex, map[string]list{
		"?!p*": node(api.KMany, node(api.KTest, node(api.KNot, p))), "?once p;.": node(api.KSeq, node(api.KTest, once(p)), step),
		"?p + ?q": node(api.KAlt, node(api.KTest, p), node(api.KTest, q)), "?(p | q)*": node(api.KMany, node(api.KTest, node(api.KOr, p, q))),
		"(?(p))": node(api.KTest, p), "?back{.*}*": node(api.KMany, node(api.KTest, timed(api.KBack, 0, -1, node(api.KMany, step)))),
		".;.*": node(api.KSeq, step, node(api.KMany, step)), "(.;.)*": node(api.KMany, node(api.KSeq, step, step)),
		".+.*;.": node(api.KAlt, step, node(api.KSeq, node(api.KMany, step), step)),
	})
}

// P6.1: what stands in one kind of text alone.
func TestSorts(t *testing.T) {
	for text, at := range map[string]int{".": 0, "?p": 0, "p*": 1, "p;q": 1, "p+q": 1, "back": 4, "back(.)": 4, "back{p}": 5, "back{(p)}": 6, "back{!.}": 5, "back{?.}": 6, "back{?p&q}": 7, "back{?p->q}": 7, "back{?p since q}": 8, "back{. & .}": 7, "back{(?p|q)}": 8, "back{?(.)}": 7, "back{.)": 6, "(p}": 2, "back{?(p}}": 8, "back{(.}": 7, "p}": 1, "p)": 1, "p]": 1, "back{.}}": 7, "back{.}.": 7, "back{.}*": 7, "back{**}": 5, "3": 0, "{.}": 0, "since": 0, "until p": 0, "()": 1, "back{}": 5, "back{()}": 6, "p true": 2, "p(q)": 1, "p!q": 1, "!": 1, "!)": 1, "p->": 3, "p--": 1, "(": 1, "(p": 2, "back{?": 6, "back{?p": 7, "once": 4, "once since p": 5} {
		wrong(t, Parse, text, at, api.ErrForm)
	}
	for text, at := range map[string]int{"": 0, "p": 0, "!p": 0, "true": 0, "back{.}": 0, "..": 1, "?p&q": 2, "?p?p": 2, ".}": 1, ".)": 1, "(.": 2, "(.}": 2, "*": 0, "+.": 0, ".+": 2, ".;": 2, ".;*": 2, "(*)": 1, "?": 1, "?.": 1, "?*": 1, "?p.": 2, ".p": 1, ".5": 1, "5": 0, ".&.": 1, ".[1,2]": 1} {
		wrong(t, Regex, text, at, api.ErrForm)
	}
}

// P6.1: what Lex refuses is told first, wherever it is.
func TestLexFirst(t *testing.T) {
	for _, read := range readers {
		for text, at := range map[string]int{"A": 0, "p q A": 4, ") - >": 2, "once[01,2]p": 5, "once[2,10000]p": 7, "abcdefghijklmnopq": 0, "p & & é": 6, "p\t": 1, strings.Repeat("(", 60) + "#": 60, strings.Repeat("p ", 999) + "=": 1998} {
			wrong(t, read, text, at, api.ErrForm)
		}
		wrong(t, read, strings.Repeat(" ", api.MaxText+1), 0, api.ErrMany)
		wrong(t, read, strings.Repeat("#", api.MaxText+1), 0, api.ErrMany)
		wrong(t, read, strings.Repeat(" ", api.MaxText), api.MaxText, api.ErrForm)
	}
	says(t, Parse, map[string]list{strings.Repeat(" ", api.MaxText-1) + "p": prop("p")})
}

// P6.1: each nesting token at the last level and one level deeper.
func TestDeep(t *testing.T) {
	r := strings.Repeat
	for _, tok := range []string{"(p)", "!p", "prev p", "next[1,2]p", "once p", "hist p", "some p", "all[0,*] p"} {
		for _, up := range []string{"(", "!", "once ", "hist[3,3]"} {
			ends := ""
			if up == "(" {
				ends = ")"
			}
			if l, at, e := Parse(r(up, 39) + tok + r(ends, 39)); e != api.OK || at != 0 || len(l) == 0 {
				t.Error(up, tok, at, e)
			}
			wrong(t, Parse, r(up, 40)+tok+r(ends, 40), 40*len(up), api.ErrDeep)
			wrong(t, Parse, r(up, 40)+tok[:len(tok)-1], 40*len(up), api.ErrDeep)
		}
	}
	for text, at := range map[string]int{"fore{.}": 4, "back[1,2] {.}": 10, "back{": 4} {
		wrong(t, Parse, r("!", 40)+text, 40+at, api.ErrDeep)
	}
	for text, at := range map[string]int{"back": 4, "back p": 5, "back)": 4, "back[2,1]{": 7} {
		wrong(t, Parse, r("!", 40)+text, 40+at, api.ErrForm)
	}
}

// P6.1: the same in regular expressions.
func TestDeepRegs(t *testing.T) {
	r := strings.Repeat
	for text, at := range map[string]int{"(.)": 0, "?p": 0, "(": 0, "?": 0, ".;(.)": 2, ".;?p": 2} {
		wrong(t, Regex, r("(", 40)+text, 40+at, api.ErrDeep)
	}
	wrong(t, Regex, r("(", 39)+"?!p", 40, api.ErrDeep)
	wrong(t, Regex, r("(", 39)+"?(p)", 40, api.ErrDeep)
	wrong(t, Regex, r("(", 39)+"?back{.}", 44, api.ErrDeep)
	wrong(t, Regex, r("(", 38)+"?back{?p}", 44, api.ErrDeep)
	for n, text := range map[int]string{40: ".*;.", 39: "?p;?p", 38: "?back{.};?!p", 37: "?back{?p}", 36: "?!back{?p}+?(!(p))"} {
		if _, at, e := Regex(r("(", n) + text + r(")", n)); e != api.OK || at != 0 {
			t.Error(text, at, e)
		}
	}
}

// P6.1: what is nested has an end: its depth is free for what stands beside it.
func TestDepthAgain(t *testing.T) {
	r := strings.Repeat
	deep := []string{r("(", 40) + "p" + r(")", 40), r("!", 40) + "p", r("once[1,2]", 20) + r("(", 20) + "p" + r(")", 20), r("back{?", 20) + "p" + r("}", 20), r("!", 39) + "back{.}"}
	for _, a := range deep {
		for _, b := range deep {
			for _, op := range []string{"&", "|", "->", " since ", " until[1,2] "} {
				if _, at, e := Parse(a + op + b); e != api.OK || at != 0 {
					t.Error(a, op, b, at, e)
				}
				wrong(t, Parse, a+op+"("+r("!", 40)+"p", len(a+op)+40, api.ErrDeep)
			}
		}
	}
	// An operator between two operands is no level of its own.
	if _, at, e := Parse(r("!", 39) + "(" + r("p&p|", 39) + "p)"); e != api.OK || at != 0 {
		t.Error(at, e)
	}
	wrong(t, Parse, r("!", 39)+"(p & !q)", 44, api.ErrDeep)
	wrong(t, Parse, r("!", 38)+"(p & !q | !!q)", 49, api.ErrDeep)
}

// P6.1: the last node and one more, of each token that creates one.
func TestMany(t *testing.T) {
	r := strings.Repeat
	// 199 nodes, and then a token that creates the last one; behind it, what would be one too many.
	full, most := "p"+r("&p", 99), "!p"+r("&p", 98)+"&"
	for _, tok := range []string{"&", "|", "->", " since ", " until[1,2]"} {
		wrong(t, Parse, full+tok, len(full+tok), api.ErrForm)
		wrong(t, Parse, full+tok+"p", len(full+tok), api.ErrMany)
		wrong(t, Parse, full+tok+"true", len(full+tok), api.ErrMany)
		wrong(t, Parse, full+tok+"(back{.})", len(full+tok)+1, api.ErrMany)
		wrong(t, Parse, full+tok+" since", len(full+tok)+1, api.ErrForm)
		wrong(t, Parse, "!"+full+tok+"p", len(full)+1+strings.IndexFunc(tok, func(r rune) bool { return r != ' ' }), api.ErrMany)
	}
	for _, tok := range []string{"p", "true", "false", "(p)"} {
		l, at, e := Parse(most + tok)
		if len(l) != api.MaxNodes || at != 0 || e != api.OK {
			t.Error(tok, len(l), at, e)
		}
		wrong(t, Parse, "!"+most+tok, len(most)+1+strings.Count(tok, "("), api.ErrMany)
	}
	for _, tok := range []string{"!", "prev", "next", "once", "hist", "some", "all[1,2]", "back", "fore[3,*]"} {
		wrong(t, Parse, most+tok, len(most+tok), api.ErrForm)
		wrong(t, Parse, "!"+most+tok, len(most)+1, api.ErrMany)
		wrong(t, Parse, "!"+most+tok+"[", len(most)+1, api.ErrMany)
	}
}

// P6.1: the last node and one more, in regular expressions.
func TestManyRegs(t *testing.T) {
	r := strings.Repeat
	for _, op := range []string{"+", ";"} {
		full := "." + r(op+".", 99) // 199 nodes
		wrong(t, Regex, full+op, len(full)+1, api.ErrForm)
		for text, e := range map[string]api.Errno{".": api.ErrMany, "?p": api.ErrMany, "*": api.ErrForm, "(?p)": api.ErrMany} {
			wrong(t, Regex, full+op+text, len(full)+1+strings.Count(text, "("), e)
		}
		wrong(t, Regex, full+"**", len(full)+1, api.ErrMany)
		wrong(t, Regex, full+"*"+op, len(full)+1, api.ErrMany)
		wrong(t, Regex, full+"*)", len(full)+1, api.ErrForm)
		test := "." + r(op+".", 98) + op + "?" // 199 nodes, and its operand is the last one
		for _, text := range []string{full + "*", test + "p", test + "(p)"} {
			if l, at, e := Regex(text); len(l) != api.MaxNodes || at != 0 || e != api.OK {
				t.Error(text, len(l), at, e)
			}
		}
		wrong(t, Regex, test+"!p", len(test)+1, api.ErrMany)
		wrong(t, Regex, test+"p*", len(test)+1, api.ErrMany)
	}
}

// P6.1: tokens that create no node, at the last one: brackets, spans, and their stars.
func TestManyFree(t *testing.T) {
	r := strings.Repeat
	for _, text := range []string{
		"once[1,*] p" + r(" & p", 99), "p since[2,*] !p" + r("&p", 98), "(((!p" + r("&p", 99) + ")))",
		"back[0,*]{(.*;.*" + r(";.", 97) + ")}", "!p" + r("&(p)", 99),
	} {
		if l, at, e := Parse(text); len(l) != api.MaxNodes || at != 0 || e != api.OK {
			t.Error(text, len(l), at, e)
		}
	}
}

// P6.1: of several errors of one token, the one that is listed first.
func TestErrorOrder(t *testing.T) {
	r := strings.Repeat
	full := "p" + r("&p", 79) + "&" + r("!", 40) // 200 nodes, and 40 levels
	for text, e := range map[string]api.Errno{"p": api.ErrMany, "true": api.ErrMany, "back": api.ErrMany, "(p)": api.ErrDeep, "&": api.ErrForm, "?": api.ErrForm, ")": api.ErrForm, "{": api.ErrForm, "5": api.ErrForm, "": api.ErrForm} {
		wrong(t, Parse, full+text, len(full), e)
	}
	inside := "p" + r("&p", 79) + "&" + r("!", 39) + "(true" // the same, behind an operand
	for text, e := range map[string]api.Errno{"&p": api.ErrMany, "->": api.ErrMany, "until": api.ErrMany, "*": api.ErrForm, "+": api.ErrForm, "true": api.ErrForm} {
		wrong(t, Parse, inside+" "+text, len(inside)+1, e)
	}
	for _, tok := range []string{"!", "prev", "next", "once", "hist", "some", "all"} {
		wrong(t, Parse, full+tok, len(full), api.ErrDeep)
		wrong(t, Parse, full+tok+"[2,1]", len(full), api.ErrDeep)
		wrong(t, Parse, inside+" "+tok, len(inside)+1, api.ErrForm)
	}
	steps := r("(", 40) + "." + r(";.", 99) + ";"
	for text, e := range map[string]api.Errno{"?": api.ErrDeep, "(": api.ErrDeep, ".": api.ErrMany, "*": api.ErrForm, "p": api.ErrForm, "!": api.ErrForm, "+": api.ErrForm} {
		wrong(t, Regex, steps+text, len(steps), e)
	}
}

// R2: two results share no memory, nor do two lists of one.
func TestMemory(t *testing.T) {
	text := "a & b -> back[1,2]{?(a | b)*;.} since c"
	one, _, _ := Parse(text)
	two, _, _ := Parse(text)
	for i := range one {
		kids := one[i].Kids[:cap(one[i].Kids)]
		for k := range kids {
			kids[k] = 100 * i
		}
	}
	for i := range one {
		for _, k := range one[i].Kids[:cap(one[i].Kids)] {
			if k != 100*i {
				t.Errorf("node %d has a child %d", i, k)
			}
		}
	}
	if three, _, _ := Parse(text); !alike(two, three) || !tree.May(two) {
		t.Error(two, three)
	}
}

// R3: any bytes end without a panic, and are told as wrong or read as what may be.
func TestAnyBytes(t *testing.T) {
	const bytes = "()[]{},*.?+;!&|->pq19 \nonce\xff\x00A"
	r := rand.New(rand.NewSource(63))
	for range 20000 {
		b := make([]byte, r.Intn(12))
		for i := range b {
			b[i] = bytes[r.Intn(len(bytes))]
		}
		for start, read := range readers {
			l, at, e := read(string(b))
			if (e == api.OK) != tree.May(l) || at < 0 || at > len(b) || e == api.OK && at != 0 {
				t.Errorf("%s %q: %v, %d, %v", start, b, l, at, e)
			}
		}
	}
}
