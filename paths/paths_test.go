package paths

import (
	"math"
	"math/rand"
	"reflect"
	"slices"
	"strings"
	"testing"

	"watchglass/api"
	"watchglass/parse"
	"watchglass/tree"
)

// reg is a text's regular expression.
func reg(t *testing.T, s string) list {
	t.Helper()
	l, at, no := parse.Regex(s)
	if no != api.OK {
		t.Fatal(s, at, no)
	}
	return l
}

// agrees fails unless all calls answer for a regular expression what the model does, and leave it as it is.
func agrees(t *testing.T, l list, vals [][]uint64) {
	t.Helper()
	before, held := deep(l), deepVals(vals)
	tests, steps := numbered(l, len(l)-1, api.KTest), numbered(l, len(l)-1, api.KStep)
	if a, b := Tests(l), Steps(l); !slices.Equal(a, tests) || !slices.Equal(b, steps) {
		t.Errorf("%v: tests %v, steps %v, want %v and %v", l, a, b, tests, steps)
	}
	if got, want := Reach(l, vals), model(l, vals); !alike(got, want) {
		t.Errorf("Reach(%v, %v) = %v, want %v", l, vals, got, want)
	}
	if !reflect.DeepEqual(l, before) || !reflect.DeepEqual(vals, held) {
		t.Errorf("%v and %v became %v and %v", before, held, l, vals)
	}
}

// tellsNothing fails if anything is told of a list that is no regular expression.
func tellsNothing(t *testing.T, l list) {
	t.Helper()
	for _, vals := range [][][]uint64{nil, {{1}}, make([][]uint64, 5)} {
		if got := Reach(l, vals); len(got) > 0 {
			t.Errorf("Reach(%v, %v) = %v", l, vals, got)
		}
	}
	if len(Tests(l)) > 0 || len(Steps(l)) > 0 {
		t.Errorf("%v: tests %v, steps %v", l, Tests(l), Steps(l))
	}
}

// P14.1: known numbers, with tests in the formulas of tests.
func TestNumbers(t *testing.T) {
	for _, x := range []struct {
		s            string
		tests, steps []int
	}{
		{".", nil, []int{0}},
		{".*", nil, []int{0}},
		{"?p", []int{1}, nil},
		{"?(p & !q)", []int{4}, nil},
		{"?p ; . ; ?q", []int{1, 5}, []int{2}},
		{"?p ; (. + ?q ; .)*", []int{1, 4}, []int{2, 5}},
		{"?back {?p ; .}", []int{5}, nil},
		{"?fore {. ; ?back {.*}} ; .", []int{7}, []int{8}},
		{". ; ?(p since fore {?q*}) ; ?p", []int{7, 10}, []int{0}},
	} {
		l := reg(t, x.s)
		if a, b := Tests(l), Steps(l); !slices.Equal(a, x.tests) || !slices.Equal(b, x.steps) {
			t.Errorf("%s: tests %v, steps %v", x.s, a, b)
		}
	}
}

// P14.2: known ways; the first test holds at the points 0, 2, 3, the second one at 1, 2, and the number 2 is of none.
func TestKnown(t *testing.T) {
	vals := [][]uint64{{5}, {2}, {7, 0}, {1, 0, 0}}
	for s, want := range map[string]string{
		".":                   "0100 0010 0001 0000",
		"?p":                  "1000 0000 0010 0001",
		"?p + ?q":             "1000 0100 0010 0001",
		"?p ; ?q":             "0000 0000 0010 0000",
		"?p ; . ; ?q":         "0100 0000 0000 0000",
		"(?p)*":               "1000 0100 0010 0001",
		".*":                  "1111 0111 0011 0001",
		"(. ; . ; .)*":        "1001 0100 0010 0001",
		". ; .*":              "0111 0011 0001 0000",
		"(?p ; .)*":           "1100 0100 0011 0001",
		"(. ; ?p + . ; ?q)*":  "1111 0111 0011 0001",
		"(?p ; . ; .)* ; .":   "0101 0010 0001 0000",
		"(. ; ?p)* ; (?q)*":   "1000 0111 0011 0001",
		"((?p)* ; (. ; .)*)*": "1010 0101 0010 0001",
	} {
		rows := []string{}
		for _, row := range Reach(reg(t, s), vals) {
			text := ""
			for _, is := range row {
				text += map[bool]string{false: "0", true: "1"}[is]
			}
			rows = append(rows, text)
		}
		if got := strings.Join(rows, " "); got != want {
			t.Errorf("%s: %s, want %s", s, got, want)
		}
	}
}

// P14.1, P14.2: all small regular expressions, with all tests that may hold.
func TestAllShapes(t *testing.T) {
	count := 0
	for _, l := range shapes(6) {
		for _, x := range l {
			tests := len(numbered(x, len(x)-1, api.KTest))
			for n := range 4 {
				for bits := range 1 << (tests * n) {
					vals := make([][]uint64, n)
					for i := range vals {
						vals[i] = []uint64{uint64(bits >> (tests * i) & (1<<tests - 1))}
					}
					agrees(t, x, vals)
					count++
				}
			}
			if t.Failed() {
				return
			}
		}
	}
	if count < 10000 {
		t.Errorf("only %d were asked", count)
	}
}

// P14.1, P14.2: random regular expressions, with formulas of all kinds in their tests.
func TestRandom(t *testing.T) {
	r := rand.New(rand.NewSource(14))
	nested := 0
	for range 10000 {
		l := sample(r, true, 1+r.Intn(8))
		tests := len(numbered(l, len(l)-1, api.KTest))
		agrees(t, l, randomVals(r, r.Intn(9), tests))
		for i, n := range l {
			if n.Kind == api.KTest && !slices.Contains(Tests(l), i) {
				nested++
			}
		}
		if t.Failed() {
			return
		}
	}
	if nested < 100 {
		t.Errorf("only %d tests within tests", nested)
	}
}

// P14.2: loops in loops that can be passed at one point, in every order of their parts.
func TestLoops(t *testing.T) {
	r := rand.New(rand.NewSource(141))
	for range 4000 {
		l := loops(r, 1+r.Intn(6))
		tests := len(numbered(l, len(l)-1, api.KTest))
		agrees(t, l, randomVals(r, 1+r.Intn(7), tests))
		if t.Failed() {
			return
		}
	}
	row := []list{test(), step(), test(), many(test()), many(step())}
	for range 300 {
		r.Shuffle(len(row), func(i, k int) { row[i], row[k] = row[k], row[i] })
		l := many(chain(row[0], many(chain(row[1], many(seq(row[2], many(row[3]))))), row[4]))
		agrees(t, l, randomVals(r, 6, 3))
	}
}

// P14.2: KMany may lead nowhere, whatever its child is, and begins afresh at each point.
func TestMany(t *testing.T) {
	for _, s := range []string{".", "?p", ". ; .", "?p ; ?q", "(.)*", "?p + .", "(?p ; .)*", ". ; ?p", "?p ; . ; ?q"} {
		for _, v := range []uint64{0, 1, 2, 3} {
			for n := range 6 {
				vals := make([][]uint64, n)
				for i := range vals {
					vals[i] = []uint64{v}
				}
				l := reg(t, "("+s+")*")
				agrees(t, l, vals)
				for i, row := range Reach(l, vals) {
					if !row[i] {
						t.Errorf("(%s)*: no way from %d to itself", s, i)
					}
				}
			}
		}
	}
}

// P14.2: as many points as words of a set have numbers, and a few more or less.
func TestPoints(t *testing.T) {
	r := rand.New(rand.NewSource(142))
	for _, n := range []int{0, 1, 2, 62, 63, 64, 65, 66, 127, 128, 129} {
		for _, s := range []string{".", "?p", ".*", "(. ; .)* ; ?p", "(?p ; . + ?q ; . ; .)*", "(.* ; ?p)* ; . ; ?q"} {
			agrees(t, reg(t, s), randomVals(r, n, 2))
		}
		if got := Reach(reg(t, ".*"), make([][]uint64, n)); len(got) != n {
			t.Errorf("%d rows of %d points", len(got), n)
		}
	}
}

// P14.1, P14.2: tests of great numbers, and numbers that are no test's.
func TestManyTests(t *testing.T) {
	const tests = 5000
	l := fold(api.KAlt, slices.Repeat([]list{test()}, 8))
	for len(numbered(l, len(l)-1, api.KTest)) < tests {
		l = alt(l, l)
	}
	count := len(Tests(l))
	if count < tests || len(Steps(l)) != 0 {
		t.Fatalf("%d tests, %d steps", count, len(Steps(l)))
	}
	numbers := []int{0, 1, 63, 64, 65, 127, 128, 4095, 4096, 4097, count - 1, count, count + 1, 1 << 16}
	vals := [][]uint64{nil, {0}}
	for _, k := range numbers {
		s := make([]uint64, k/64+1)
		s[k/64] = 1 << (k % 64)
		vals = append(vals, s, append(slices.Clone(s), 0, 0))
	}
	for i, row := range Reach(l, vals) {
		for j, is := range row {
			want := i == j && i > 1 && numbers[(i-2)/2] < count
			if is != want {
				t.Errorf("%d to %d: %v, where %v holds", i, j, is, vals[i])
			}
		}
	}
	// The test of the number k is the k-th one: only its own step is ahead.
	for _, k := range []int{0, 1, 6, 63, 64, 65, 99} {
		row := []list{}
		for i := range 100 {
			row = append(row, chain(test(), fold(api.KSeq, slices.Repeat([]list{step()}, i+1))))
		}
		got := Reach(fold(api.KAlt, row), append([][]uint64{{0, 0, 0, 1}, {0, 0, 0}}, slices.Repeat([][]uint64{append(make([]uint64, k/64), 1<<(k%64))}, 110)...))
		for i := 2; i < len(got); i++ {
			for j, is := range got[i] {
				if is != (j == i+k+1) {
					t.Errorf("test %d: %d to %d: %v", k, i, j, is)
				}
			}
		}
		if slices.Contains(got[0], true) || slices.Contains(got[1], true) {
			t.Error("a way where no test holds")
		}
	}
}

// P14.1, P14.2: nothing is told of a list that is no regular expression.
func TestWrong(t *testing.T) {
	for _, l := range []list{
		nil, {}, over(api.KTrue), over(api.KProp), over(api.KNot, over(api.KProp)), over(api.KBack, seq(step(), test())), over(api.KFore, many(step())),
		{{Kind: 0}}, {{Kind: -1}}, {{Kind: api.KMany + 1}}, {{Kind: math.MinInt}}, {{Kind: math.MaxInt}},
		{{Kind: api.KTest}}, {{Kind: api.KMany}}, {{Kind: api.KAlt}}, {{Kind: api.KSeq}},
		{{Kind: api.KStep, Name: "p"}}, {{Kind: api.KStep, Span: api.Span{Lo: 0, Hi: api.NoEnd}}}, {{Kind: api.KStep, Kids: []int{0}}},
		append(step(), step()...), append(test(), step()...),
		{{Kind: api.KStep}, {Kind: api.KTest, Kids: []int{0}}}, {{Kind: api.KTrue}, {Kind: api.KMany, Kids: []int{0}}},
		{{Kind: api.KStep}, {Kind: api.KMany, Kids: []int{1}}}, {{Kind: api.KMany, Kids: []int{1}}, {Kind: api.KMany, Kids: []int{0}}},
		{{Kind: api.KStep}, {Kind: api.KMany, Kids: []int{-1}}}, {{Kind: api.KStep}, {Kind: api.KMany, Kids: []int{math.MinInt}}}, {{Kind: api.KStep}, {Kind: api.KMany, Kids: []int{math.MaxInt}}},
		{{Kind: api.KStep}, {Kind: api.KAlt, Kids: []int{0, 0}}}, {{Kind: api.KStep}, {Kind: api.KStep}, {Kind: api.KSeq, Kids: []int{1, 0}}},
		{{Kind: api.KProp, Name: "until"}, {Kind: api.KTest, Kids: []int{0}}}, {{Kind: api.KProp}, {Kind: api.KTest, Kids: []int{0}}},
	} {
		tellsNothing(t, l)
	}
}

// P14.1, P14.2: lists that are nearly valid.
func TestSpoiled(t *testing.T) {
	r := rand.New(rand.NewSource(143))
	right, wrong := 0, 0
	for range 6000 {
		l := deep(sample(r, r.Intn(4) > 0, 1+r.Intn(5)))
		i, k := r.Intn(len(l)), r.Intn(len(l))
		switch r.Intn(7) {
		case 0:
			l[i].Kind = r.Intn(api.KMany + 2)
		case 1:
			l[i].Name = []string{"", "p", "true", "P"}[r.Intn(4)]
		case 2:
			l[i].Span = api.Span{Lo: r.Intn(3), Hi: r.Intn(4) - 1}
		case 3:
			l[i].Kids = append(l[i].Kids, k)
		case 4:
			l[i], l[k] = l[k], l[i]
		case 5:
			l = slices.Delete(l, i, i+1)
		case 6:
			for x := range l[i].Kids {
				l[i].Kids[x] = []int{-1, 0, k, i, len(l), math.MinInt, math.MaxInt}[r.Intn(7)]
			}
		}
		if tree.Reg(l) {
			right++
			agrees(t, l, randomVals(r, 4, 6))
		} else {
			wrong++
			tellsNothing(t, l)
		}
	}
	if right < 100 || wrong < 100 {
		t.Errorf("%d right, %d wrong", right, wrong)
	}
}

// P14.3: ways lead only forward.
func TestForward(t *testing.T) {
	r := rand.New(rand.NewSource(144))
	for range 2000 {
		l := loops(r, 1+r.Intn(7))
		for i, row := range Reach(l, randomVals(r, 1+r.Intn(70), 70)) {
			if slices.Contains(row[:i], true) {
				t.Fatalf("%v: from %d: %v", l, i, row)
			}
		}
	}
}

// P14.3: KAlt is the union, KSeq the product, KMany the closure of what its children reach, whose tests have their own numbers.
func TestLaws(t *testing.T) {
	r := rand.New(rand.NewSource(145))
	for range 2000 {
		a, b := loops(r, r.Intn(5)), loops(r, r.Intn(5))
		count := len(Tests(a))
		vals := randomVals(r, r.Intn(9), count+len(Tests(b)))
		// what holds of the tests of b, by the numbers that they have there
		ofB := make([][]uint64, len(vals))
		for i := range vals {
			ofB[i] = make([]uint64, len(vals[i]))
			for k := range 64 * len(vals[i]) {
				if in(vals[i], k+count) {
					ofB[i][k/64] |= 1 << (k % 64)
				}
			}
		}
		x, y := Reach(a, vals), Reach(b, ofB)
		for _, law := range []struct {
			what      string
			got, want [][]bool
		}{
			{"union", Reach(tree.Join(api.Node{Kind: api.KAlt}, a, b), vals), union(x, y)},
			{"product", Reach(tree.Join(api.Node{Kind: api.KSeq}, a, b), vals), product(x, y)},
			{"closure", Reach(tree.Join(api.Node{Kind: api.KMany}, a), vals), closure(x)},
		} {
			if !alike(law.got, law.want) {
				t.Fatalf("%v, %v over %v: %v, want the %s %v", a, b, vals, law.got, law.what, law.want)
			}
		}
	}
}

// R2: what is told is new memory, row by row, and nothing is kept.
func TestOwn(t *testing.T) {
	l := reg(t, "(?p ; . + ?q)* ; .*")
	vals := [][]uint64{{3}, {1}, {2, 0}, {0}}
	got, again := Reach(l, vals), Reach(l, vals)
	for i := range got {
		for j := range got[i] {
			got[i][j] = !got[i][j]
		}
		got[i] = append(got[i], true)
	}
	for i := range got {
		for j := range vals {
			if got[i][j] == again[i][j] {
				t.Errorf("row %d shares memory", i)
			}
		}
	}
	tests, steps := Tests(l), Steps(l)
	tests[0], steps[0] = 99, 99
	agrees(t, l, vals)
	if a, b := Tests(l), Steps(l); slices.Contains(a, 99) || slices.Contains(b, 99) {
		t.Errorf("tests %v, steps %v", a, b)
	}
}

// R3: lists as deep as a limit lets them be.
func TestDeep(t *testing.T) {
	const n = 1 << 16
	stars := step()
	for i := range n {
		stars = append(stars, api.Node{Kind: api.KMany, Kids: []int{i}})
	}
	all := func(i, j int) bool { return i <= j }
	if got := Reach(stars, make([][]uint64, 70)); !alike(got, fill(70, all)) || !slices.Equal(Steps(stars), []int{0}) {
		t.Error("a chain of loops")
	}
	for _, x := range []struct {
		kind int
		want func(i, j int) bool
	}{
		{api.KAlt, func(i, j int) bool { return j == i+1 }}, {api.KSeq, func(i, j int) bool { return false }},
	} {
		for _, l := range []list{comb(x.kind, n, true), comb(x.kind, n, false)} {
			if got := Reach(l, make([][]uint64, 3)); !alike(got, fill(3, x.want)) || len(Steps(l)) != n || len(Tests(l)) > 0 {
				t.Errorf("a comb of kind %d", x.kind)
			}
		}
	}
	deepTest := list{{Kind: api.KTrue}}
	for i := range n {
		deepTest = append(deepTest, api.Node{Kind: api.KNot, Kids: []int{i}})
	}
	deepTest = append(deepTest, api.Node{Kind: api.KTest, Kids: []int{n}})
	if got := Tests(deepTest); !slices.Equal(got, []int{n + 1}) {
		t.Errorf("tests %v", got)
	}
}

// comb is n steps under nodes of a kind, each of which has a step on one side.
func comb(kind, n int, left bool) list {
	l := step()
	if left {
		for range n - 1 {
			l = append(l, api.Node{Kind: api.KStep}, api.Node{Kind: kind, Kids: []int{len(l) - 1, len(l)}})
		}
		return l
	}
	l = slices.Repeat(step(), n)
	for i := range n - 1 {
		l = append(l, api.Node{Kind: kind, Kids: []int{n - 2 - i, len(l) - 1}})
	}
	return l
}

// R3: a long trace, and as many nodes as a formula may have.
func TestLong(t *testing.T) {
	const n = 3000
	vals := make([][]uint64, n)
	for i := range vals {
		if i%7 == 0 {
			vals[i] = []uint64{math.MaxUint64}
		}
	}
	row := []list{}
	for range 28 {
		row = append(row, many(seq(test(), step())), many(step()))
	}
	for i, is := range Reach(chain(row...), vals) {
		if slices.Contains(is[:i], true) || slices.Contains(is[i:], false) {
			t.Fatalf("from %d", i)
		}
	}
	sevens := Reach(many(seq(test(), chain(slices.Repeat([]list{step()}, 7)...))), vals)
	for i, row := range sevens {
		for j, is := range row {
			if is != (i == j || i < j && i%7 == 0 && j%7 == 0) {
				t.Fatalf("%d to %d: %v", i, j, is)
			}
		}
	}
}
