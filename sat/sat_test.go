package sat

import (
	"math"
	"math/rand"
	"reflect"
	"slices"
	"strconv"
	"strings"
	"testing"

	"watchglass/api"
	"watchglass/parse"
	"watchglass/trace"
	"watchglass/tree"
)

// form is a text's formula.
func form(t *testing.T, s string) list {
	t.Helper()
	l, at, no := parse.Parse(s)
	if no != api.OK {
		t.Fatal(s, at, no)
	}
	return l
}

// agrees fails unless both calls answer what the model does, and leave their arguments as they are.
func agrees(t *testing.T, x api.Trace, l list) {
	t.Helper()
	y, m := copied(x, l)
	want := model(x, l)
	if got := All(x, l); !slices.Equal(got, want) {
		t.Errorf("All(%v, %v) = %v, want %v", x, l, told(got), told(want))
	}
	for i := -2; i < len(want)+3; i++ {
		if got := At(x, i, l); got != (i >= 0 && i < len(want) && want[i]) {
			t.Errorf("At(%v, %d, %v) = %v", x, i, l, got)
		}
	}
	if !reflect.DeepEqual(x, y) || !reflect.DeepEqual(l, m) {
		t.Errorf("%v and %v became %v and %v", y, m, x, l)
	}
}

// tells fails unless All answers this for the text's formula.
func tells(t *testing.T, x api.Trace, s, want string) {
	t.Helper()
	if got := told(All(x, form(t, s))); got != want {
		t.Errorf("%s: %s, want %s", s, got, want)
	}
}

// tellsNothing fails if anything is told.
func tellsNothing(t *testing.T, x api.Trace, l list) {
	t.Helper()
	if got := All(x, l); len(got) > 0 {
		t.Errorf("All(%v, %v) = %v", x, l, got)
	}
	for _, i := range []int{math.MinInt, -1, 0, 1, len(x.Events), math.MaxInt} {
		if At(x, i, l) {
			t.Errorf("At(%v, %d, %v)", x, i, l)
		}
	}
}

// P15.1: known truth, for each kind of nodes.
func TestKnown(t *testing.T) {
	//                 0    1   2    3    4    5  6
	x := made("p q r", "2:p 2:q 4:pq 5:qr 5:pr 9: 10:pqr")
	for s, want := range map[string]string{
		"true": "1111111", "false": "0000000", "p": "1010101", "r": "0001101", "other": "0000000",
		"!p": "0101010", "p & q": "0010001", "p | q": "1111101", "p -> q": "0111011", "other -> p": "1111111",
		"prev p": "0101010", "prev[0,0] true": "0100100", "prev[1,2] q": "0011000", "prev[4,*] r": "0000010",
		"next p": "0101010", "next[0,0] true": "1001000", "next[1,2] q": "0110010", "next[4,*] true": "0000100",
		"once r": "0001111", "once[0,0] q": "0111101", "once[3,3] p": "0001100", "once[7,*] p": "0000011", "once[9,*] true": "0000000",
		"some r": "1111111", "some[0,0] q": "1111001", "some[4,5] r": "0001100", "some[7,*] p": "1100000", "some[9,*] true": "0000000",
		"hist p": "1000000", "hist[0,0] p": "1010001", "hist[1,3] q": "1100010", "hist[9,*] false": "1111111", "hist[7,*] false": "1111100",
		"all r": "0000001", "all[0,0] p": "0010101", "all[1,5] (p | q)": "1100011", "all[9,*] false": "1111111", "all[7,*] false": "0011111",
		"q since p": "1111101", "true since[4,*] q": "0000011", "r since[1,1] p": "0001100", "q since[0,0] p": "1110101", "p since[1,1] p": "0000000", "p since[1,1] q": "0000000", "false since p": "1010101",
		"p until q": "1111001", "true until[4,*] r": "1111100", "p until[1,1] r": "0010000", "q until[0,0] p": "1011101", "q until[1,1] q": "0010000", "!p until[1,1] p": "0000010", "false until q": "0111001",
		"back {.}": "0111111", "back[0,0] {.}": "0100100", "back {?p}": "1010101", "back[1,*] {?p}": "0000000", "back[3,3] {.*}": "0001100", "back[3,*] {?q ; (. ; ?q)*}": "0001000", "back {?p ; . ; ?q}": "0101000",
		"fore {.}": "1111110", "fore[0,0] {.}": "1001000", "fore {?p}": "1010101", "fore[1,*] {?p}": "0000000", "fore[3,3] {.*}": "1100000", "fore[1,*] {?q ; (. ; ?q)*}": "0110000", "fore {?p ; . ; ?q}": "1010000",
		"back {?fore {. ; ?r} ; .}": "0001101", "fore {. ; ?back {?(q since p) ; . ; .}}": "0111110",
	} {
		tells(t, x, s, want)
	}
	tells(t, made("p", "3:p 4:"), "once[1,1] p", "01")
}

// P15.1: all small formulas over all small traces.
func TestSmall(t *testing.T) {
	forms, _ := shapes(3)
	few := smallTraces(2, 2)
	more := smallTraces(3, 2)
	r := rand.New(rand.NewSource(151))
	for n := range forms {
		for k, l := range forms[n] {
			on := append(few[:len(few):len(few)], more[k%len(more)], more[r.Intn(len(more))], smallTraces(0, 0)[0], smallTraces(1, 0)[k%4])
			if n < 3 {
				on = append(on, more...)
			}
			for _, x := range on {
				if got, want := All(x, l), model(x, l); !slices.Equal(got, want) {
					t.Fatalf("All(%v, %v) = %v, want %v", x, l, told(got), told(want))
				}
			}
		}
	}
}

// P15.1: formulas of four nodes and of five below KBack and KFore, each over a trace or two.
func TestSmallWays(t *testing.T) {
	forms, regs := shapes(4)
	r := rand.New(rand.NewSource(152))
	for _, l := range forms[4] {
		x := anyTrace(r, 1+r.Intn(5), 2)
		if got, want := All(x, l), model(x, l); !slices.Equal(got, want) {
			t.Fatalf("All(%v, %v) = %v, want %v", x, l, told(got), told(want))
		}
	}
	for _, reg := range regs[4] {
		for _, k := range []int{api.KBack, api.KFore} {
			x, l := anyTrace(r, 1+r.Intn(6), 2), timed(k, anySpan(r), reg)
			if got, want := All(x, l), model(x, l); !slices.Equal(got, want) {
				t.Fatalf("All(%v, %v) = %v, want %v", x, l, told(got), told(want))
			}
		}
	}
}

// P15.1: random formulas over random traces.
func TestRandom(t *testing.T) {
	r := rand.New(rand.NewSource(153))
	held, count := 0, 0
	for range 6000 {
		x, l := anyTrace(r, r.Intn(9), 1+r.Intn(5)), anyList(r, false, 1+r.Intn(4), anyKind)
		if len(l) > 40 {
			continue
		}
		agrees(t, x, l)
		for _, is := range model(x, l) {
			count++
			if is {
				held++
			}
		}
		if t.Failed() {
			return
		}
	}
	if held < count/10 || held > count*9/10 {
		t.Errorf("%d of %d", held, count)
	}
}

// P15.1: every interval over every kind that has one, on long traces.
func TestStretches(t *testing.T) {
	r := rand.New(rand.NewSource(154))
	for range 1500 {
		k := api.KPrev + r.Intn(api.KFore+1-api.KPrev)
		kids := []list{}
		for range kidsOf[k] {
			kids = append(kids, anyList(r, kidsReg(k), 1+r.Intn(3)*kidsOf[k]%4, func(k int) bool { return !hasSpan(k) && k != api.KTrue }))
		}
		x, l := anyTrace(r, 10+r.Intn(40), r.Intn(4)), timed(k, anySpan(r), kids...)
		if got, want := All(x, l), model(x, l); !slices.Equal(got, want) {
			t.Fatalf("All(%v, %v) = %v, want %v", x, l, told(got), told(want))
		}
	}
}

// P15.1: ways that go far, within intervals of every kind.
func TestFarWays(t *testing.T) {
	r := rand.New(rand.NewSource(155))
	regs := []string{".*", "(. ; .)*", "(?p ; .)*", "?q ; (. ; ?p)* ; .", "(. ; . ; . + ?p ; .)*", ". ; . ; . ; .", "(. ; ?q)* ; ?p + . ; .", "?p ; .* ; ?q", "(?p ; . ; ?q ; . + .)* ; ?p"}
	for _, s := range regs {
		l, _, _ := parse.Regex(s)
		for range 20 {
			x := anyTrace(r, 15+r.Intn(30), r.Intn(4))
			for _, k := range []int{api.KBack, api.KFore} {
				l := timed(k, anySpan(r), l)
				if got, want := All(x, l), model(x, l); !slices.Equal(got, want) {
					t.Fatalf("%s: All(%v, %v) = %v, want %v", s, x, l, told(got), told(want))
				}
			}
		}
	}
}

// P15.1: times up to the greatest one, and the ends of intervals.
func TestTimes(t *testing.T) {
	x := made("p", "0:p 9999: 10000: 9223372036854775807: 9223372036854775808:p 18446744073709551615:p")
	for s, want := range map[string]string{
		"once[9999,9999] p": "010000", "once[0,9999] p": "110011", "once[9999,*] p": "011111", "once[1,1] true": "001010",
		"some[9999,9999] true": "100000", "some[0,9999] p": "100111", "some[9999,*] p": "111110", "some[1,1] p": "000100",
		"prev[1,1] true": "001010", "prev[9999,*] true": "010101", "prev[9999,9999] p": "010000", "prev p": "010001",
		"next[1,1] true": "010100", "next[9999,*] true": "101010", "next[9999,9999] true": "100000",
		"hist[9999,*] p": "111000", "hist[0,9999] !p": "001100", "all[9999,*] p": "000111", "all[0,9999] p": "000011",
		"true since[9999,*] p": "011111", "true until[9999,*] p": "111110", "!p since[0,9999] p": "110011", "!p until[0,9999] p": "100111",
		"back[9999,*] {?p ; .*}": "011111", "fore[9999,*] {.* ; ?p}": "111110", "back[9999,9999] {.}": "010000", "fore[1,1] {.}": "010100", "back[0,9999] {. ; .}": "000000", "fore[0,9999] {. ; .}": "000000",
	} {
		tells(t, x, s, want)
		agrees(t, x, form(t, s))
	}
	y := made("p", "0:p 10000:p 18446744073709551615:p")
	tells(t, y, "once[9999,9999] true", "000")
	tells(t, y, "back[0,9999] {.}", "000")
	tells(t, y, "fore[9999,*] {.}", "110")
}

// P15.1: points that have one time are told apart by their places.
func TestOneTime(t *testing.T) {
	x := made("p q", "5: 5:p 5: 5:q 5:")
	for s, want := range map[string]string{
		"once[0,0] p": "01111", "some[0,0] p": "11000", "once[1,*] true": "00000", "all[1,*] false": "11111", "hist[0,0] !p": "10000", "all[0,0] !q": "00001",
		"!q since[0,0] p": "01100", "!p until[0,0] q": "00110", "true until[0,0] p": "11000", "prev[0,0] p": "00100", "next[1,*] true": "00000",
		"back[0,0] {?p ; . ; .}": "00010", "fore[0,0] {. ; . ; ?q}": "01000", "fore[0,0] {.* ; ?p}": "11000", "back[0,0] {?q ; .*}": "00011",
	} {
		tells(t, x, s, want)
	}
	r := rand.New(rand.NewSource(156))
	for range 500 {
		agrees(t, anyTrace(r, r.Intn(12), 0), anyList(r, false, 3, func(k int) bool { return k != api.KMany }))
	}
}

// P15.1: traces without points, with one, without names, and with as many names as there may be.
func TestEdges(t *testing.T) {
	none, one := made("p", ""), made("p", "18446744073709551615:p")
	for s, want := range map[string]string{
		"true": "1", "false": "0", "p": "1", "!p": "0", "prev true": "0", "next true": "0", "once p": "1", "some p": "1", "hist p": "1", "all !p": "0", "once[1,*] p": "0", "all[1,*] p": "1",
		"false since p": "1", "false until p": "1", "p since[1,1] p": "0", "back {.}": "0", "fore {.}": "0", "back {.*}": "1", "fore {.* ; ?p}": "1", "back[1,*] {.*}": "0", "fore {?prev true}": "0",
	} {
		tells(t, none, s, "")
		tells(t, one, s, want)
		agrees(t, none, form(t, s))
		agrees(t, api.Trace{}, form(t, s))
	}
	x := api.Trace{}
	for i := range api.MaxProps {
		x.Names = append(x.Names, "n"+strconv.Itoa(i))
	}
	for i := range api.MaxProps {
		x.Events = append(x.Events, api.Event{Time: 1, Ids: []int{i}})
	}
	x.Events[0].Ids = []int{0, 63}
	for i, name := range x.Names {
		for j, is := range All(x, prop(name)) {
			if is != (j == i || i == 63 && j == 0) {
				t.Errorf("%s at %d: %v", name, j, is)
			}
		}
	}
	if got := All(x, prop("n64")); slices.Contains(got, true) || len(got) != 64 {
		t.Error(got)
	}
	if got := All(api.Trace{Events: make([]api.Event, 2)}, prop("p")); !slices.Equal(got, []bool{false, false}) {
		t.Error(got)
	}
}

// P15.1: nothing holds at a point that there is not.
func TestNoPoint(t *testing.T) {
	x := made("p", "1:p 2:p 3:p")
	for _, s := range []string{"true", "p", "!prev p", "all p", "back {.*}", "fore {.*}"} {
		l := form(t, s)
		for _, i := range []int{math.MinInt, math.MinInt + 1, -3, -2, -1, 3, 4, math.MaxInt - 1, math.MaxInt} {
			if At(x, i, l) {
				t.Error(s, i)
			}
		}
		for i := range 3 {
			if !At(x, i, l) && (s != "!prev p" || i == 0) {
				t.Error(s, i)
			}
		}
	}
}

// P15.1: nothing is told of a trace that is not valid, or by a list that is no formula.
func TestWrong(t *testing.T) {
	x, p := made("p", "1:p 2:p"), prop("p")
	at := func(time uint64, ids ...int) api.Event { return api.Event{Time: time, Ids: ids} }
	if got := All(x, p); !slices.Equal(got, []bool{true, true}) {
		t.Error(got)
	}
	for _, y := range []api.Trace{
		{Names: []string{"p", "p"}, Events: []api.Event{at(1)}}, {Names: []string{"P"}, Events: []api.Event{at(1)}}, {Names: []string{""}, Events: []api.Event{at(1)}}, {Names: []string{"until"}, Events: []api.Event{at(1)}},
		{Names: slices.Repeat([]string{"p"}, 65), Events: []api.Event{at(1)}},
		{Names: []string{"p"}, Events: []api.Event{at(1, 1)}}, {Names: []string{"p"}, Events: []api.Event{at(1, -1)}}, {Names: []string{"p"}, Events: []api.Event{at(1, 0, 0)}}, {Names: []string{"p", "q"}, Events: []api.Event{at(1, 1, 0)}},
		{Names: []string{"p"}, Events: []api.Event{at(1, math.MinInt)}}, {Names: []string{"p"}, Events: []api.Event{at(1, math.MaxInt)}}, {Events: []api.Event{at(1, 0)}},
		{Names: []string{"p"}, Events: []api.Event{at(2), at(1)}}, {Names: []string{"p"}, Events: []api.Event{at(1), at(math.MaxUint64), at(0)}}, {Names: []string{"p"}, Events: []api.Event{at(1, 0), at(1, 0), at(1, 1)}},
	} {
		for _, s := range []string{"true", "p", "!p", "all p", "hist p", "back {.*}", "fore {.*}"} {
			tellsNothing(t, y, form(t, s))
		}
	}
	step, open := kind(api.KStep), api.Span{Lo: 0, Hi: api.NoEnd}
	for _, l := range []list{
		nil, {}, step, kind(api.KTest, p), kind(api.KMany, step), kind(api.KSeq, step, step), kind(api.KAlt, step, step),
		{{}}, {{Kind: -1}}, {{Kind: api.KMany + 1}}, {{Kind: math.MinInt}}, {{Kind: math.MaxInt}}, {{Kind: api.KNot}}, {{Kind: api.KAnd}}, {{Kind: api.KProp}}, {{Kind: api.KProp, Name: "Q"}}, {{Kind: api.KProp, Name: "since"}},
		{{Kind: api.KTrue, Name: "p"}}, {{Kind: api.KTrue, Kids: []int{0}}}, {{Kind: api.KTrue, Span: open}}, append(prop("p"), prop("p")...),
		kind(api.KNot, step), kind(api.KAnd, p, step), kind(api.KTest, step), timed(api.KBack, open, p), timed(api.KFore, open, p), timed(api.KOnce, open, step), timed(api.KSince, open, p), timed(api.KOnce, open, p, p),
		timed(api.KOnce, api.Span{Lo: -1, Hi: 1}, p), timed(api.KOnce, api.Span{Lo: 2, Hi: 1}, p), timed(api.KAll, api.Span{Lo: 0, Hi: 10000}, p), timed(api.KPrev, api.Span{Lo: 10000, Hi: api.NoEnd}, p), timed(api.KBack, api.Span{Lo: 0, Hi: -2}, step), timed(api.KNext, api.Span{Lo: math.MinInt, Hi: math.MaxInt}, p),
		{{Kind: api.KTrue}, {Kind: api.KNot, Kids: []int{1}}}, {{Kind: api.KTrue}, {Kind: api.KNot, Kids: []int{-1}}}, {{Kind: api.KTrue}, {Kind: api.KNot, Kids: []int{math.MaxInt}}}, {{Kind: api.KNot, Kids: []int{1}}, {Kind: api.KNot, Kids: []int{0}}}, {{Kind: api.KTrue}, {Kind: api.KAnd, Kids: []int{0, 0}}}, {{Kind: api.KTrue}, {Kind: api.KTrue}, {Kind: api.KAnd, Kids: []int{1, 0}}},
	} {
		tellsNothing(t, x, l)
	}
}

// P15.1: traces and lists that are nearly valid.
func TestSpoiled(t *testing.T) {
	r := rand.New(rand.NewSource(157))
	right, wrong := 0, 0
	for range 6000 {
		x, l := copied(anyTrace(r, 1+r.Intn(5), 3), anyList(r, false, 1+r.Intn(3), anyKind))
		spoil(r, x, l)
		if trace.May(x) && tree.Form(l) {
			right++
			agrees(t, x, l)
		} else {
			wrong++
			tellsNothing(t, x, l)
		}
		if t.Failed() {
			return
		}
	}
	if right < 500 || wrong < 1000 {
		t.Error(right, wrong)
	}
}

// spoil changes a trace or a list a little.
func spoil(r *rand.Rand, x api.Trace, l list) {
	n, e := &l[r.Intn(len(l))], &x.Events[r.Intn(len(x.Events))]
	switch r.Intn(7) {
	case 0:
		n.Kind = r.Intn(api.KMany + 3)
	case 1:
		n.Name = []string{"", "q", "Q", "p q"}[r.Intn(4)]
	case 2:
		n.Span = api.Span{Lo: r.Intn(4) - 1, Hi: r.Intn(6) - 2}
	case 3:
		if len(n.Kids) > 0 {
			n.Kids[r.Intn(len(n.Kids))] += r.Intn(3) - 1
		}
	case 4:
		n.Kids = append(n.Kids, r.Intn(len(l)))
	case 5:
		e.Time = uint64(r.Intn(8))
	case 6:
		e.Ids = append(e.Ids, r.Intn(4)-1)
	}
}

// P15.2: KHist and KAll are KOnce and KSome with KNot inside and outside.
func TestDuals(t *testing.T) {
	r := rand.New(rand.NewSource(158))
	for range 2000 {
		x, l, s := anyTrace(r, r.Intn(30), r.Intn(4)), anyList(r, false, 1+r.Intn(3), anyKind), anySpan(r)
		for _, pair := range [][2]int{{api.KHist, api.KOnce}, {api.KAll, api.KSome}} {
			a, b := timed(pair[0], s, l), kind(api.KNot, timed(pair[1], s, kind(api.KNot, l)))
			if got, want := All(x, a), All(x, b); !slices.Equal(got, want) {
				t.Fatalf("%v: %v by %v, %v by %v", x, told(got), a, told(want), b)
			}
		}
	}
}

// P15.2: a formula that does not look at later points depends only on the points up to i; whatever follows changes nothing.
func TestPast(t *testing.T) {
	r := rand.New(rand.NewSource(159))
	for range 1500 {
		x := anyTrace(r, 1+r.Intn(12), r.Intn(4))
		l := anyList(r, false, 1+r.Intn(5), func(k int) bool { return !isFuture(k) })
		all := All(x, l)
		for i := range x.Events {
			if got := All(trace.Cut(x, i+1), l); !slices.Equal(got, all[:i+1]) {
				t.Fatalf("%v up to %d by %v: %v, and of all %v", x, i, l, told(got), told(all))
			}
		}
	}
	for s, want := range map[string]bool{"next true": true, "some p": true, "all[1,*] false": false, "true until p": true, "fore {. ; ?p}": true} {
		x, l := made("p", "1: 2:p"), form(t, s)
		if At(x, 0, l) != want || At(trace.Cut(x, 1), 0, l) == want {
			t.Errorf("%s does not look at the point behind", s)
		}
	}
}

// R2: what is told is new memory, and nothing is kept.
func TestOwn(t *testing.T) {
	x := made("p q", "1:p 2:q 3:pq")
	for _, s := range []string{"true", "p", "!p", "p & q", "prev p", "next p", "once p", "all p", "p since q", "p until q", "back {?p}", "fore {?p}"} {
		l := form(t, s)
		got, again := All(x, l), All(x, l)
		for i := range got {
			got[i] = !got[i]
			if got[i] == again[i] {
				t.Errorf("%s shares memory", s)
			}
		}
		agrees(t, x, l)
	}
}

// R2: nil and empty lists are equal.
func TestNil(t *testing.T) {
	x := api.Trace{Names: []string{"p"}, Events: []api.Event{{Time: 1}, {Time: 2, Ids: []int{0}}}}
	y := api.Trace{Names: []string{"p"}, Events: []api.Event{{Time: 1, Ids: []int{}}, {Time: 2, Ids: []int{0}}}}
	l := list{{Kind: api.KProp, Name: "p"}, {Kind: api.KTest, Kids: []int{0}}, {Kind: api.KStep}, {Kind: api.KSeq, Kids: []int{1, 2}}, {Kind: api.KFore, Span: api.Span{Lo: 0, Hi: api.NoEnd}, Kids: []int{3}}, {Kind: api.KNot, Kids: []int{4}}}
	m := slices.Clone(l)
	m[0].Kids, m[2].Kids = []int{}, []int{}
	for _, a := range []api.Trace{x, y} {
		for _, b := range []list{l, m} {
			if got := told(All(a, b)); got != "11" {
				t.Error(a, b, got)
			}
		}
	}
	if got := All(api.Trace{Names: []string{}, Events: []api.Event{}}, l); len(got) > 0 {
		t.Error(got)
	}
}

// P15.1: more tests than a word of a set has numbers, and than a set that is made may have.
func TestManyTests(t *testing.T) {
	x := made("p q", "1: 2:p 3:q 4:pq 5:")
	for _, n := range []int{63, 64, 65, 129, 5000} {
		for _, one := range []int{0, 1, 62, 63, 64, 127, 128, n - 2, n - 1} {
			if one >= n {
				continue
			}
			row, any := kind(api.KTest, kind(api.KTrue)), kind(api.KTest, kind(api.KFalse))
			if one == 0 {
				row, any = kind(api.KTest, prop("p")), kind(api.KTest, prop("q"))
			}
			row, any = slices.Grow(row, 4*n), slices.Grow(any, 4*n)
			for k := 1; k < n; k++ {
				a, b := api.Node{Kind: api.KTrue}, api.Node{Kind: api.KFalse}
				if k == one {
					a, b = api.Node{Kind: api.KProp, Name: "p"}, api.Node{Kind: api.KProp, Name: "q"}
				}
				at := len(row) - 1
				row = append(row, a, api.Node{Kind: api.KTest, Kids: []int{at + 1}}, api.Node{Kind: api.KSeq, Kids: []int{at, at + 2}})
				any = append(any, b, api.Node{Kind: api.KTest, Kids: []int{at + 1}}, api.Node{Kind: api.KAlt, Kids: []int{at, at + 2}})
			}
			for _, k := range []int{api.KBack, api.KFore} {
				if got := told(All(x, timed(k, api.Span{Lo: 0, Hi: api.NoEnd}, row))); got != "01010" {
					t.Error(n, one, k, got)
				}
				if got := told(All(x, timed(k, api.Span{Lo: 0, Hi: 3}, any))); got != "00110" {
					t.Error(n, one, k, got)
				}
			}
		}
	}
}

// R3: lists as deep as a limit lets them be.
func TestDeep(t *testing.T) {
	const n = 1 << 16
	open := api.Span{Lo: 0, Hi: api.NoEnd}
	x := made("p q", "1:p 2: 3:q")
	nots, onces, stars, walks := prop("p"), prop("q"), kind(api.KTest, prop("p")), prop("p")
	for i := range n {
		nots = append(nots, api.Node{Kind: api.KNot, Kids: []int{i}})
		onces = append(onces, api.Node{Kind: api.KOnce, Span: open, Kids: []int{i}})
		stars = append(stars, api.Node{Kind: api.KMany, Kids: []int{i + 1}})
	}
	stars = append(stars, api.Node{Kind: api.KBack, Span: open, Kids: []int{n + 1}})
	for range n / 2 {
		at := len(walks)
		walks = append(walks, api.Node{Kind: api.KTest, Kids: []int{at - 1}}, api.Node{Kind: api.KFore, Span: open, Kids: []int{at}})
	}
	for _, y := range []struct {
		what, want string
		l          list
	}{
		{"nots", "100", nots}, {"onces", "001", onces}, {"stars", "111", stars}, {"walks", "100", walks},
		{"left", "011", comb(api.KSince, true)}, {"right", "011", comb(api.KSince, false)}, {"ands", "011", comb(api.KAnd, true)}, {"ors", "011", comb(api.KOr, false)},
		{"left alts", "011", timed(api.KFore, open, comb(api.KAlt, true))}, {"right seqs", "011", timed(api.KBack, open, comb(api.KSeq, false))},
	} {
		if got := told(All(x, y.l)); got != y.want {
			t.Errorf("%s: %s, want %s", y.what, got, y.want)
		}
	}
}

// comb is 2^16 nodes of a kind, each of which has on one side what holds where there is a point before; that of regular expressions has tests of it.
func comb(k int, left bool) list {
	n := 1 << 16
	leaf := func(l list) list {
		l = append(l, api.Node{Kind: api.KTrue}, api.Node{Kind: api.KPrev, Span: api.Span{Lo: 0, Hi: api.NoEnd}, Kids: []int{len(l)}})
		if isReg(k) {
			l = append(l, api.Node{Kind: api.KTest, Kids: []int{len(l) - 1}})
		}
		return l
	}
	root := func(kids ...int) api.Node {
		out := api.Node{Kind: k, Kids: kids}
		if hasSpan(k) {
			out.Span = api.Span{Lo: 0, Hi: api.NoEnd}
		}
		return out
	}
	l := leaf(nil)
	if left {
		for range n {
			at := len(l) - 1
			l = leaf(l)
			l = append(l, root(at, len(l)-1))
		}
		return l
	}
	leaves := []int{len(l) - 1}
	for range n {
		l = leaf(l)
		leaves = append(leaves, len(l)-1)
	}
	for i := range n {
		l = append(l, root(leaves[n-1-i], len(l)-1))
	}
	return l
}

// R3: many tests under one node, each of which has ways of its own in it.
func TestWide(t *testing.T) {
	x := made("p q", "1:p 2: 4:q 9:p")
	inner := "back {?p ; .* ; ?fore[0,5] {.* ; ?q}}"
	s := "back {" + strings.Repeat("?"+inner+" ; ", 10) + ". ; .*}"
	tells(t, x, inner, "1110")
	tells(t, x, s, "0111")
	agrees(t, x, form(t, s))
}

// R3: long traces.
func TestLong(t *testing.T) {
	const n = 100000
	x := api.Trace{Names: []string{"p", "q"}}
	for i := range n {
		e := api.Event{Time: uint64(2 * i)}
		if i%10 == 0 {
			e.Ids = []int{0}
		}
		x.Events = append(x.Events, e)
	}
	x.Events[n-1].Ids = []int{1}
	for s, want := range map[string]func(i int) bool{
		"once[4,6] p":                 func(i int) bool { return i%10 == 2 || i%10 == 3 },
		"some[4,6] p":                 func(i int) bool { return (i%10 == 7 || i%10 == 8) && i+5 < n },
		"hist[0,20] !p":               func(i int) bool { return false },
		"all[2,18] !p":                func(i int) bool { return i%10 == 0 || i > n-10 },
		"!q since[9999,*] p":          func(i int) bool { return i >= 5000 && i < n-1 },
		"!p until q":                  func(i int) bool { return i > n-10 },
		"some q & once p":             func(i int) bool { return true },
		"back[8,8] {?p ; . ; . ; .*}": func(i int) bool { return i%10 == 4 },
		"back[0,40] {?p ; (. ; .)*}":  func(i int) bool { return i%2 == 0 },
		"fore[1,9] {. ; ?p}":          func(i int) bool { return i%10 == 9 && i != n-1 },
		"fore[0,60] {(?!p ; .)* ; ?q}": func(i int) bool {
			return i > n-10
		},
	} {
		for i, is := range All(x, form(t, s)) {
			if is != want(i) {
				t.Errorf("%s at %d: %v", s, i, is)
				break
			}
		}
	}
	x.Events = x.Events[:3000]
	for s, want := range map[string]func(i int) bool{
		"back {?p ; (. ; . ; . ; .)*}":      func(i int) bool { return i%4 == 0 || i%2 == 0 && i >= 10 },
		"fore {(. ; . ; . ; .)* ; ?p}":      func(i int) bool { return i%4 == 2 && i <= 2990 || i%4 == 0 && i <= 2980 },
		"back[100,*] {?p ; (. ; ?!p)* ; .}": func(i int) bool { return false },
		"fore[4,*] {?p ; (. ; ?!p)*}":       func(i int) bool { return i%10 == 0 },
	} {
		for i, is := range All(x, form(t, s)) {
			if is != want(i) {
				t.Errorf("%s at %d: %v", s, i, is)
				break
			}
		}
	}
}
