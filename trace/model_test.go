package trace

import (
	"math/rand"
	"regexp"
	"slices"
	"testing"

	"watchglass/api"
)

// taken are the words that are no names, as chapter 4 lists them.
var taken = []string{"true", "false", "prev", "next", "once", "hist", "some", "all", "since", "until", "back", "fore"}

var wordForm = regexp.MustCompile(`\A[a-z][a-z0-9_]{0,15}\z`)

// mayName, mayNames, mayIds and mayTrace are P8.1 word by word.
func mayName(s string) bool { return wordForm.MatchString(s) && !slices.Contains(taken, s) }

func mayNames(l []string) bool {
	seen := map[string]int{}
	for _, s := range l {
		if seen[s]++; !mayName(s) || seen[s] > 1 {
			return false
		}
	}
	return len(l) <= 64
}

func mayIds(l []int, props int) bool {
	for i := range l {
		if l[i] < 0 || l[i] >= props || i > 0 && l[i-1] >= l[i] {
			return false
		}
	}
	return true
}

func mayTrace(t api.Trace) bool {
	for i, e := range t.Events {
		if !mayIds(e.Ids, len(t.Names)) || i > 0 && t.Events[i-1].Time > e.Time {
			return false
		}
	}
	return mayNames(t.Names)
}

// holds, cut, front and add are P8.2 word by word.
func holds(t api.Trace, i int, name string) bool {
	if !mayTrace(t) || i < 0 || i >= len(t.Events) {
		return false
	}
	for _, id := range t.Events[i].Ids {
		if t.Names[id] == name {
			return true
		}
	}
	return false
}

func cut(t api.Trace, n int) api.Trace {
	if !mayTrace(t) {
		return api.Trace{}
	}
	out := api.Trace{Names: t.Names}
	for i, e := range t.Events {
		if i < n {
			out.Events = append(out.Events, e)
		}
	}
	return out
}

func front(a, b api.Trace) bool {
	if !mayTrace(a) || !mayTrace(b) {
		return false
	}
	for n := range len(b.Events) + 1 {
		if alike(a, api.Trace{Names: b.Names, Events: b.Events[:n]}) {
			return true
		}
	}
	return false
}

func add(t api.Trace, e api.Event) (api.Trace, api.Errno) {
	if !mayTrace(t) {
		return api.Trace{}, api.ErrArg
	}
	if !mayIds(e.Ids, len(t.Names)) {
		return api.Trace{}, api.ErrOrder
	}
	if n := len(t.Events); n > 0 && t.Events[n-1].Time > e.Time {
		return api.Trace{}, api.ErrTime
	}
	return api.Trace{Names: t.Names, Events: append(slices.Clone(t.Events), e)}, api.OK
}

// alike tells whether two traces are equal; nil and empty lists are.
func alike(a, b api.Trace) bool {
	return slices.Equal(a.Names, b.Names) && slices.EqualFunc(a.Events, b.Events, alikeEvents)
}

func alikeEvents(a, b api.Event) bool { return a.Time == b.Time && slices.Equal(a.Ids, b.Ids) }

// copied is a trace in other memory.
func copied(t api.Trace) api.Trace {
	out := api.Trace{Names: slices.Clone(t.Names)}
	for _, e := range t.Events {
		out.Events = append(out.Events, api.Event{Time: e.Time, Ids: slices.Clone(e.Ids)})
	}
	return out
}

// traces are all traces of those names with up to so many of those events.
func traces(names [][]string, events []api.Event, most int) []api.Trace {
	rows := [][]api.Event{nil}
	for from := 0; most > 0; most-- {
		to := len(rows)
		for ; from < to; from++ {
			for _, e := range events {
				rows = append(rows, append(slices.Clone(rows[from]), e))
			}
		}
	}
	out := []api.Trace{}
	for _, l := range names {
		for _, row := range rows {
			out = append(out, api.Trace{Names: l, Events: row})
		}
	}
	return out
}

// events are all with one of those times and one of those lists of ids.
func events(times []uint64, ids ...[]int) []api.Event {
	out := []api.Event{}
	for _, at := range times {
		for _, l := range ids {
			out = append(out, api.Event{Time: at, Ids: l})
		}
	}
	return out
}

// likeModel fails if a call says another thing of a trace than the words of the promises.
func likeModel(t *testing.T, x api.Trace, names []string) {
	t.Helper()
	if May(x) != mayTrace(x) {
		t.Errorf("May(%v)", x)
	}
	for i := -1; i <= len(x.Events); i++ {
		for _, s := range names {
			if Holds(x, i, s) != holds(x, i, s) {
				t.Errorf("Holds(%v, %d, %q)", x, i, s)
			}
		}
		if got := Cut(x, i); !alike(got, cut(x, i)) || !May(got) {
			t.Errorf("Cut(%v, %d) = %v", x, i, got)
		}
	}
}

// addsLikeModel is likeModel of Add.
func addsLikeModel(t *testing.T, x api.Trace, e api.Event) {
	t.Helper()
	got, no := Add(x, e)
	if want, wantNo := add(x, e); no != wantNo || !alike(got, want) || !May(got) {
		t.Errorf("Add(%v, %v) = %v, %v, want %v, %v", x, e, got, no, want, wantNo)
	}
}

// P8.1, P8.2: every call says of all short traces what the promises say, whether they are valid or not.
func TestShortTraces(t *testing.T) {
	names := [][]string{nil, {"p"}, {"p", "q"}, {"q", "p"}, {"p", "p"}, {"p", "all"}}
	all := events([]uint64{0, 1, 1<<64 - 1}, nil, []int{0}, []int{1}, []int{0, 1}, []int{1, 0}, []int{1, 1}, []int{-1}, []int{2})
	for _, x := range traces(names, all, 2) {
		likeModel(t, x, []string{"p", "q", "r", "all", ""})
		for _, e := range all {
			addsLikeModel(t, x, e)
		}
	}
	few := events([]uint64{3, 4}, nil, []int{0}, []int{1}, []int{1, 0})
	for _, x := range traces(names[2:5], few, 3) {
		likeModel(t, x, []string{"p", "q", "r"})
	}
}

// P8.2: Front says of all pairs of short traces what the promise says.
func TestFrontOfPairs(t *testing.T) {
	all := traces([][]string{{"p", "q"}, {"q", "p"}, {"p", "p"}}, events([]uint64{3, 4}, nil, []int{0}, []int{0, 1}, []int{1, 0}), 2)
	found := 0
	for _, a := range all {
		for _, b := range all {
			want := front(a, b)
			if Front(a, b) != want {
				t.Errorf("Front(%v, %v)", a, b)
			}
			if want {
				found++
			}
		}
	}
	if found == 0 {
		t.Error("no pair")
	}
}

// randomTrace is a trace that is valid, or now and then almost so.
func randomTrace(r *rand.Rand) api.Trace {
	x := api.Trace{}
	for i := range r.Intn(66) {
		x.Names = append(x.Names, "p"+string(rune('a'+i%26))+string(rune('a'+i/26)))
	}
	at := r.Uint64() >> r.Intn(64)
	for range r.Intn(8) {
		e := api.Event{Time: at}
		for i := range x.Names {
			if r.Intn(4) == 0 {
				e.Ids = append(e.Ids, i)
			}
		}
		x.Events = append(x.Events, e)
		at += min(uint64(r.Intn(3)), 1<<64-1-at)
	}
	if r.Intn(3) == 0 {
		spoil(r, x)
	}
	return x
}

// spoil changes one thing of a trace, if there is one, so that it may be valid no more.
func spoil(r *rand.Rand, x api.Trace) {
	if n := len(x.Names); n > 0 && r.Intn(2) == 0 {
		x.Names[r.Intn(n)] = []string{x.Names[r.Intn(n)], "", "fore", "P", "p-q", "abcdefghijklmnop", "abcdefghijklmnopq"}[r.Intn(7)]
		return
	}
	if len(x.Events) == 0 {
		return
	}
	e := &x.Events[r.Intn(len(x.Events))]
	if n := len(e.Ids); n > 0 && r.Intn(2) == 0 {
		e.Ids[r.Intn(n)] += r.Intn(7) - 3
	} else if n > 0 {
		e.Ids[r.Intn(n)] = len(x.Names) - r.Intn(2)
	}
	e.Time += uint64(r.Intn(5)) - 2
}

// P8.1, P8.2: every call says of random traces what the promises say.
func TestRandomTraces(t *testing.T) {
	r := rand.New(rand.NewSource(8))
	valid := 0
	for range 2000 {
		x, y := randomTrace(r), randomTrace(r)
		likeModel(t, x, append([]string{"r", ""}, x.Names[:min(len(x.Names), r.Intn(4))]...))
		if mayTrace(x) {
			valid++
		}
		if len(y.Events) > 0 {
			addsLikeModel(t, x, y.Events[0])
			addsLikeModel(t, y, y.Events[len(y.Events)/2])
		}
		z := copied(x)
		spoil(r, z)
		for _, b := range []api.Trace{y, z} {
			if a := cut(x, r.Intn(9)); Front(a, b) != front(a, b) || Front(x, b) != front(x, b) {
				t.Errorf("Front(%v, %v) or of %v", a, b, x)
			}
		}
	}
	if valid < 500 || valid > 1800 {
		t.Error(valid)
	}
}
