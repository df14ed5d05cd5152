package trace

import (
	"math"
	"slices"
	"strconv"
	"strings"
	"testing"
	"unsafe"

	"watchglass/api"
)

// edges are numbers around 0 and at the ends of int.
var edges = []int{math.MinInt, math.MinInt + 1, -2, -1, 0, 1, 2, 3, 1 << 31, 1 << 32, 1 << 62, math.MaxInt - 1, math.MaxInt}

// lastTime is the greatest time.
const lastTime = uint64(math.MaxUint64)

// at is an event.
func at(time uint64, ids ...int) api.Event { return api.Event{Time: time, Ids: ids} }

// over is a trace with the names in that text.
func over(names string, events ...api.Event) api.Trace {
	return api.Trace{Names: strings.Fields(names), Events: events}
}

// many are so many names.
func many(n int) []string {
	l := []string{}
	for i := range n {
		l = append(l, "p"+strconv.Itoa(i))
	}
	return l
}

// upTo are the ids below n.
func upTo(n int) []int {
	l := []int{}
	for i := range n {
		l = append(l, i)
	}
	return l
}

// wrong are traces that are not valid.
func wrong() []api.Trace {
	return []api.Trace{
		over("p p", at(1, 0)),
		over("p true", at(1, 0)),
		over("P", at(1, 0)),
		{Names: []string{""}, Events: []api.Event{at(1, 0)}},
		{Names: many(65), Events: []api.Event{at(1, 0)}},
		over("p", at(1, 0), at(2, 1)),
		over("p", at(1, -1)),
		over("", at(1, 0)),
		over("p q", at(1, 0), at(1, 1, 0)),
		over("p q", at(1, 0), at(1, 1, 1)),
		over("p", at(2, 0), at(1, 0)),
		over("p", at(0, 0), at(lastTime, 0), at(lastTime-1, 0)),
	}
}

// P8.1: names are at most 64 Names, no two equal.
func TestNames(t *testing.T) {
	for _, l := range [][]string{nil, {}, {"p"}, {"q", "p"}, {"p", "pp", "p_", "p1"}, {"abcdefghijklmnop", "abcdefghijklmnoq"}, {"truer", "nexts", "backfore", "step"}} {
		if !Names(l) {
			t.Errorf("%q", l)
		}
	}
	for n := range 130 {
		if Names(many(n)) != (n <= 64) {
			t.Error(n)
		}
	}
	for _, s := range append([]string{"", "P", "pQ", "1", "1p", "_", "_p", "p q", "p ", " p", "p\n", "p-", "p.", "é", "pé", "p\x00", "abcdefghijklmnopq", strings.Repeat("p", 1<<16)}, taken...) {
		if Names([]string{s}) || Names([]string{"p", s}) || Names([]string{s, "p"}) {
			t.Errorf("%.20q", s)
		}
	}
}

// P8.1: a name that stands twice, or no Name, is found at every place of 64.
func TestNamesPlaces(t *testing.T) {
	for i := range 64 {
		for k := range 64 {
			l := many(64)
			l[i] = l[k]
			if Names(l) != (i == k) {
				t.Error(i, k)
			}
		}
		l := many(64)
		l[i] = "hist"
		if Names(l) {
			t.Error(i)
		}
	}
}

// P8.1: ids are from 0 to props - 1, and each is greater than the one before, whatever numbers are asked.
func TestIds(t *testing.T) {
	for _, props := range edges {
		if !Ids(nil, props) || !Ids([]int{}, props) {
			t.Error(props)
		}
		for _, a := range edges {
			if got := Ids([]int{a}, props); got != (a >= 0 && a < props) {
				t.Error(a, props)
			}
			for _, b := range edges {
				if got := Ids([]int{a, b}, props); got != (a >= 0 && b < props && a < b) {
					t.Error(a, b, props)
				}
				for _, c := range edges {
					if got := Ids([]int{a, b, c}, props); got != (a >= 0 && c < props && a < b && b < c) {
						t.Error(a, b, c, props)
					}
				}
			}
		}
	}
}

// P8.1: there may be more ids than a trace has names; the wrong one is found at every place.
func TestLongIds(t *testing.T) {
	l := upTo(1 << 16)
	if !Ids(l, 1<<16) || Ids(l, 1<<16-1) || !Ids(l, math.MaxInt) {
		t.Error("long")
	}
	for i := range 64 {
		for _, step := range []int{-1, 1} {
			l := upTo(64)
			l[i] += step
			if Ids(l, 64) {
				t.Error(i, step)
			}
		}
	}
}

// P8.1: a trace has names, each event ids of them, and no time is less than the one before.
func TestMay(t *testing.T) {
	for i, x := range []api.Trace{
		{},
		{Names: []string{}, Events: []api.Event{}},
		over("p"),
		over("", at(0), at(0), at(7)),
		over("p q", at(5, 1)),
		over("p q", at(0, 0), at(0, 0, 1), at(0), at(1, 1)),
		over("p", at(lastTime, 0), at(lastTime)),
		over("p", at(0, 0), at(1<<63-1), at(1<<63), at(lastTime)),
		{Names: many(64), Events: []api.Event{at(1, 63), at(2, upTo(64)...)}},
	} {
		if !May(x) {
			t.Error(i, x)
		}
	}
	for i, x := range wrong() {
		if May(x) {
			t.Error(i, x)
		}
	}
}

// P8.1: a wrong time and wrong ids are found at every event.
func TestMayPlaces(t *testing.T) {
	for i := range 10 {
		for k, e := range []api.Event{at(4, 0), at(5, 0, 0), at(5, 2), at(5, -1)} {
			x := over("p q")
			for range 10 {
				x.Events = append(x.Events, at(5, 0, 1))
			}
			x.Events[i] = e
			if May(x) != (i == 0 && k == 0) {
				t.Error(i, k)
			}
		}
	}
}

// P8.2: a name holds where its id is.
func TestHolds(t *testing.T) {
	if x := over("p q", at(0, 1)); Holds(x, 0, "p") || !Holds(x, 0, "q") {
		t.Error("the chapter's example")
	}
	x := over("q r p", at(1, 0), at(1, 1, 2), at(1), at(9, 0, 1, 2))
	for i, want := range []string{"q", "rp", "", "qrp"} {
		for _, s := range []string{"p", "q", "r"} {
			if Holds(x, i, s) != strings.Contains(want, s) {
				t.Error(i, s)
			}
		}
		for _, s := range []string{"", "s", "rp", "true", "p ", "P", strings.Repeat("p", 1<<16)} {
			if Holds(x, i, s) {
				t.Errorf("%d %.20q", i, s)
			}
		}
	}
	for _, i := range append([]int{4, 5}, edges...) {
		if i < 0 || i >= 4 {
			if Holds(x, i, "p") || Holds(x, i, "q") || Holds(x, i, "") {
				t.Error(i)
			}
		}
	}
	if Holds(api.Trace{}, 0, "") || Holds(over("p"), 0, "p") || Holds(over("", at(1)), 0, "") {
		t.Error("nothing holds where there is nothing")
	}
}

// P8.2: each of 64 names holds where its id is.
func TestHoldsMany(t *testing.T) {
	names := many(64)
	for i := range names {
		x := api.Trace{Names: names, Events: []api.Event{at(1, i)}}
		for k, s := range names {
			if Holds(x, 0, s) != (i == k) {
				t.Error(i, k)
			}
		}
	}
}

// P8.2: the first events, with all names.
func TestCut(t *testing.T) {
	x := over("p q r", at(1, 0), at(2, 1), at(2), at(7, 0, 2))
	for _, n := range append([]int{4, 5, 6}, edges...) {
		want := api.Trace{Names: x.Names, Events: x.Events[:min(max(n, 0), 4)]}
		if got := Cut(x, n); !alike(got, want) {
			t.Error(n, got)
		}
	}
	for _, n := range edges {
		if got := Cut(over("p q"), n); !alike(got, over("p q")) {
			t.Error(n, got)
		}
		if got := Cut(api.Trace{}, n); !alike(got, api.Trace{}) {
			t.Error(n, got)
		}
	}
}

// P8.2: a trace is the front of another if the other one continues it.
func TestFront(t *testing.T) {
	x := over("p q", at(1, 0), at(2, 1), at(2), at(7, 0, 1))
	for n := range 5 {
		if a := Cut(x, n); !Front(a, x) || Front(x, a) != (n == 4) {
			t.Error(n)
		}
	}
	if !Front(api.Trace{}, api.Trace{}) || !Front(api.Trace{Names: []string{}, Events: []api.Event{}}, over("", at(1))) {
		t.Error("none")
	}
	for i, a := range []api.Trace{
		over("q p"),
		over("q p", at(1, 0)),
		over("p"),
		over(""),
		over("p q r"),
		over("p q", at(0, 0)),
		over("p q", at(1)),
		over("p q", at(1, 1)),
		over("p q", at(1, 0, 1)),
		over("p q", at(1, 0), at(2, 1), at(3)),
		over("p q", at(2, 1)),
		over("p q", at(1, 0), at(2, 1), at(2), at(7, 0, 1), at(7)),
	} {
		if !May(a) || Front(a, x) {
			t.Error(i)
		}
	}
}

// P8.2: nil and empty ids are equal.
func TestFrontNil(t *testing.T) {
	a, b := over("p", api.Event{Time: 1}), over("p", api.Event{Time: 1, Ids: []int{}})
	if !Front(a, b) || !Front(b, a) {
		t.Error("nil is as empty")
	}
}

// P8.2: an event is added behind the others.
func TestAdd(t *testing.T) {
	x := over("p q", at(1, 0), at(5, 1))
	for i, c := range []struct {
		e    api.Event
		want api.Errno
	}{
		{at(5), api.OK},
		{at(5, 0, 1), api.OK},
		{at(6, 1), api.OK},
		{at(lastTime, 0), api.OK},
		{at(4), api.ErrTime},
		{at(0, 0, 1), api.ErrTime},
		{at(6, 2), api.ErrOrder},
		{at(6, -1), api.ErrOrder},
		{at(6, 0, 0), api.ErrOrder},
		{at(6, 1, 0), api.ErrOrder},
		{at(4, 2), api.ErrOrder},
		{at(4, 1, 0), api.ErrOrder},
	} {
		want := api.Trace{}
		if c.want == api.OK {
			want = api.Trace{Names: x.Names, Events: []api.Event{x.Events[0], x.Events[1], c.e}}
		}
		if got, e := Add(x, c.e); e != c.want || !alike(got, want) {
			t.Error(i, got, e)
		}
	}
}

// P8.2: the first event may have any time, and a trace without names events without ids.
func TestAddFirst(t *testing.T) {
	for _, time := range []uint64{0, 1, 1 << 63, lastTime} {
		if got, e := Add(api.Trace{}, at(time)); e != api.OK || !alike(got, over("", at(time))) {
			t.Error(time, got, e)
		}
		if got, e := Add(over("p"), at(time, 0)); e != api.OK || !alike(got, over("p", at(time, 0))) {
			t.Error(time, got, e)
		}
	}
	if got, e := Add(api.Trace{}, at(0, 0)); e != api.ErrOrder || !alike(got, api.Trace{}) {
		t.Error(got, e)
	}
	if got, e := Add(over("p", at(lastTime)), at(lastTime-1)); e != api.ErrTime || !alike(got, api.Trace{}) {
		t.Error(got, e)
	}
}

// P8.1, P8.2: of a trace that is not valid nothing is told, and nothing is added to it, whatever else is wrong.
func TestWrongTraces(t *testing.T) {
	for i, x := range wrong() {
		if Holds(x, 0, "p") || Holds(x, 1, "p") || Front(x, x) || Front(api.Trace{Names: x.Names}, x) || Front(x, api.Trace{Names: x.Names}) || Front(api.Trace{}, x) {
			t.Error(i)
		}
		for n := -1; n < 5; n++ {
			if got := Cut(x, n); !alike(got, api.Trace{}) {
				t.Error(i, n, got)
			}
		}
		for _, e := range []api.Event{at(lastTime), at(0), at(lastTime, -1), at(0, 1, 0)} {
			if got, no := Add(x, e); no != api.ErrArg || !alike(got, api.Trace{}) {
				t.Error(i, got, no)
			}
		}
	}
}

// P8.2: a front is none of a trace that is not valid behind it.
func TestFrontOfWrong(t *testing.T) {
	a := over("p q", at(1, 0))
	for _, e := range []api.Event{at(0), at(1, 2), at(1, 1, 0)} {
		if b := over("p q", at(1, 0), e); Front(a, b) || Front(b, b) {
			t.Error(e)
		}
	}
	if !Front(a, over("p q", at(1, 0), at(1, 1))) {
		t.Error("right")
	}
}

// P8.3: all results are valid, and a trace is the result of adding its events one by one.
func TestAddAll(t *testing.T) {
	x := api.Trace{Names: many(64)}
	for i := range 100 {
		e := at(uint64(i/3) << 50)
		for id := range 64 {
			if (i*id)%7 < 2 {
				e.Ids = append(e.Ids, id)
			}
		}
		x.Events = append(x.Events, e)
	}
	got := api.Trace{Names: x.Names}
	for i, e := range x.Events {
		out, no := Add(got, e)
		if no != api.OK || !May(out) || !alike(out, Cut(x, i+1)) || !Front(got, out) || !May(Cut(x, i)) {
			t.Fatal(i, no)
		}
		got = out
	}
	if !alike(got, x) {
		t.Error("another trace")
	}
}

// sample is a trace that is made anew.
func sample() api.Trace { return over("p q r", at(1, 0, 1), at(2, 1, 2), at(2), at(7, 0, 1, 2)) }

// results are what comes of a trace of four events, as sample is, and the event.
func results(x api.Trace, e api.Event) []api.Trace {
	a, _ := Add(x, e)
	b, _ := Add(Cut(x, 0), e)
	return []api.Trace{Cut(x, 4), Cut(x, 2), Cut(x, math.MaxInt), a, b}
}

// R2: what is handed in stays as it is, and results share nothing with it.
func TestArgumentsStay(t *testing.T) {
	// There is room behind the lists, where an append would write.
	x := sample()
	x.Names, x.Events = append(x.Names, "s")[:3], append(x.Events, at(3))[:4]
	e := at(8, 1, 2)
	for _, got := range results(x, e) {
		for i := range got.Events {
			ids := got.Events[i].Ids
			for k := range ids[:cap(ids)] {
				ids[:cap(ids)][k] = 99
			}
			got.Events[i].Time = 99
		}
		got.Names[0] = "z"
	}
	if !alike(x, sample()) || !alikeEvents(e, at(8, 1, 2)) {
		t.Error(x, e)
	}
	if x.Names[:4][3] != "s" || x.Events[:5][4].Time != 3 {
		t.Error("written behind the ends")
	}
}

// R2: results are not changed with what was handed in.
func TestResultsStay(t *testing.T) {
	x, e := sample(), at(8, 1, 2)
	got, want := results(x, e), results(sample(), at(8, 1, 2))
	for i := range x.Events {
		for k := range x.Events[i].Ids {
			x.Events[i].Ids[k] = 99
		}
		x.Events[i].Time = 99
	}
	x.Names[0], e.Ids[0], e.Ids[1] = "z", 98, 99
	if !slices.EqualFunc(got, want, alike) {
		t.Error(got)
	}
}

// R2: no two lists of one result share memory, where those that were handed in do.
func TestListsApart(t *testing.T) {
	ids := upTo(4)
	x := over("p q r s", at(1, ids[:2]...), at(2, ids[:4]...), at(3, ids[1:3]...), at(4, ids[2:]...))
	for i, got := range results(x, at(8, ids[:3]...)) {
		for k := range got.Events {
			want := copied(got)
			l := got.Events[k].Ids
			for j := range l[:cap(l)] {
				l[:cap(l)][j] = 99
			}
			want.Events[k].Ids = slices.Clone(l)
			if !alike(got, want) {
				t.Error(i, k, got)
			}
		}
	}
	if !slices.Equal(ids, upTo(4)) {
		t.Error(ids)
	}
}

// R2: the names of a result are texts of its own.
func TestNamesOwn(t *testing.T) {
	long := strings.Repeat("p", 1<<10) + "q"
	x := api.Trace{Names: []string{long[1020:], long[1022:]}, Events: []api.Event{at(1), at(1), at(1), at(1)}}
	for _, got := range results(x, at(8)) {
		for i, s := range got.Names {
			if s != x.Names[i] || unsafe.StringData(s) == unsafe.StringData(x.Names[i]) {
				t.Errorf("%q", s)
			}
		}
	}
}

// R2: calls on one trace may add to it again and again, each for itself.
func TestAddTwice(t *testing.T) {
	x := sample()
	a, _ := Add(x, at(8, 0))
	b, _ := Add(x, at(9, 1))
	c, _ := Add(a, at(10, 0))
	d, _ := Add(a, at(11, 1))
	for i, got := range []api.Trace{a, b, c, d} {
		want := sample()
		if i != 1 {
			want.Events = append(want.Events, at(8, 0))
		}
		if i > 0 {
			want.Events = append(want.Events, at(uint64(8+i), i%2))
		}
		if !alike(got, want) {
			t.Error(i, got)
		}
	}
}

// R3: great traces, valid or not, come to an end.
func TestGreatTraces(t *testing.T) {
	x := api.Trace{Names: many(64)}
	for i := range 1 << 16 {
		x.Events = append(x.Events, at(uint64(i)<<48, upTo(64)...))
	}
	got, e := Add(Cut(x, 1<<16-1), x.Events[1<<16-1])
	if !May(x) || e != api.OK || !alike(got, x) || !Front(got, x) || !Holds(x, 1<<16-1, "p63") {
		t.Error("great")
	}
	x.Events[1<<16-1].Time = 0
	if May(x) || Front(got, x) || Holds(x, 0, "p0") || !alike(Cut(x, 1), api.Trace{}) {
		t.Error("great, and not valid")
	}
	if Names(many(1<<16)) || May(api.Trace{Names: many(1 << 16)}) {
		t.Error("names")
	}
}
