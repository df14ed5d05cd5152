package heads

import (
	"math"
	"slices"
	"testing"

	"watchglass/api"
	"watchglass/log"
	"watchglass/record"
)

// wrongIds are ids that no pool of few heads has.
var wrongIds = []int{math.MinInt, math.MinInt + 1, -1 << 32, -2, -1, 99, 1 << 32, math.MaxInt - 1, math.MaxInt}

// upTo are the ids below n.
func upTo(n int) []int {
	l := []int{}
	for i := range n {
		l = append(l, i)
	}
	return l
}

// many are the names of a header with n of them.
func many(n int) []string {
	l := []string{}
	for i := range n {
		l = append(l, "p"+string(rune('a'+i/26))+string(rune('a'+i%26)))
	}
	return l
}

// pool is a pool of the log of these events, with names enough for their ids.
func pool(t *testing.T, size int, l ...api.Event) *Pool {
	t.Helper()
	b := log.Encode(api.Trace{Names: many(64)})
	for _, e := range l {
		b = append(b, record.Put(nil, e)...)
	}
	p, no := New(b, []int{3, 1, 0, 7}, -1, size)
	if no != api.OK {
		t.Fatal(no)
	}
	return p
}

// opens fails unless Open answers that id.
func opens(t *testing.T, p *Pool, want int) {
	t.Helper()
	before := p.Count()
	if id, no := p.Open(); id != want || no != api.OK || p.Count() != before+1 {
		t.Errorf("Open = %d, %v, Count %d, want %d", id, no, p.Count(), want)
	}
}

// clones fails unless Clone of one head answers the other one.
func clones(t *testing.T, p *Pool, id, want int) {
	t.Helper()
	before := p.Count()
	if got, no := p.Clone(id); got != want || no != api.OK || p.Count() != before+1 {
		t.Errorf("Clone(%d) = %d, %v, Count %d, want %d", id, got, no, p.Count(), want)
	}
}

// tells fails unless Next answers that event.
func tells(t *testing.T, p *Pool, id int, want api.Event) {
	t.Helper()
	before, _ := p.Index(id)
	e, no := p.Next(id)
	if k, ok := p.Index(id); !alike(e, want) || no != api.OK || k != before+1 || !ok {
		t.Errorf("Next(%d) = %v, %v, Index %d, %v, want %v", id, e, no, k, ok, want)
	}
}

// stays fails unless Next answers that error, nothing beside it, and nothing changes.
func stays(t *testing.T, p *Pool, id int, want api.Errno) {
	t.Helper()
	before, cells, peak := where(p, id), p.Cells(), p.Peak()
	if e, no := p.Next(id); !alike(e, api.Event{}) || no != want || where(p, id) != before || p.Cells() != cells || p.Peak() != peak {
		t.Errorf("Next(%d) = %v, %v, now at %d, Cells %d, Peak %d, want %v at %d", id, e, no, where(p, id), p.Cells(), p.Peak(), want, before)
	}
}

// sought fails unless Seek answers that error; beside an error nothing changes.
func sought(t *testing.T, p *Pool, id, k int, want api.Errno) {
	t.Helper()
	at, cells, peak := where(p, id), p.Cells(), p.Peak()
	no := p.Seek(id, k)
	if want == api.OK {
		at = k
	} else if p.Cells() != cells || p.Peak() != peak {
		t.Errorf("Seek(%d, %d): Cells %d, Peak %d, want %d, %d", id, k, p.Cells(), p.Peak(), cells, peak)
	}
	if no != want || where(p, id) != at {
		t.Errorf("Seek(%d, %d) = %v, now at %d, want %v at %d", id, k, no, where(p, id), want, at)
	}
}

// where is the Index of a head, or -1.
func where(p *Pool, id int) int {
	if k, ok := p.Index(id); ok {
		return k
	}
	return -1
}

// holds fails unless the pool has that many cells now, and had that many at most.
func holds(t *testing.T, p *Pool, cells, peak int) {
	t.Helper()
	if p.Cells() != cells || p.Peak() != peak {
		t.Errorf("Cells %d, Peak %d, want %d, %d", p.Cells(), p.Peak(), cells, peak)
	}
}

// P13.1: the chapter's example.
func TestKnown(t *testing.T) {
	p := pool(t, 1)
	opens(t, p, 0)
	if id, no := p.Open(); id != 0 || no != api.ErrFull {
		t.Error(id, no)
	}
	if !p.Close(0) {
		t.Error("not closed")
	}
	opens(t, p, 0)
}

// P13.1: a size less than 1 goes before what is wrong with the header, and there is no pool beside an error.
func TestNew(t *testing.T) {
	b := log.Encode(api.Trace{Names: []string{"p", "q"}, Events: []api.Event{{Time: 1, Ids: []int{0}}}})
	start := len(log.Encode(api.Trace{Names: []string{"p", "q"}}))
	for _, size := range []int{math.MinInt, -1 << 32, -1, 0, 1, 2, 1 << 32, math.MaxInt} {
		for _, x := range []struct {
			b     []byte
			fault int
			want  api.Errno
		}{
			{b, -1, api.OK}, {b, math.MinInt, api.OK}, {b, math.MaxInt, api.OK}, {b, start, api.OK}, {b[:start], -1, api.OK},
			{b, start - 1, api.ErrFault}, {b, 0, api.ErrFault}, {b[1:], 3, api.ErrFault},
			{nil, -1, api.ErrHead}, {nil, 0, api.ErrHead}, {b[1:], -1, api.ErrHead}, {b[:start-1], -1, api.ErrHead}, {b[1:], 5, api.ErrHead},
		} {
			want := x.want
			if size < 1 {
				want = api.ErrArg
			}
			p, no := New(x.b, []int{2, 5}, x.fault, size)
			if no != want || (p == nil) != (want != api.OK) {
				t.Error(size, x.fault, no, want)
			}
			if p != nil && (!slices.Equal(p.Names(), []string{"p", "q"}) || p.Count() != 0 || p.Cells() != 0 || p.Peak() != 0) {
				t.Error(size, x.fault, p.Names(), p.Count(), p.Cells(), p.Peak())
			}
		}
	}
}

// P13.1: the names of the header, none and as many as there may be.
func TestNames(t *testing.T) {
	for n := range 65 {
		p, no := New(log.Encode(api.Trace{Names: many(n)}), nil, -1, 1)
		if no != api.OK || !slices.Equal(p.Names(), many(n)) {
			t.Error(n, no)
		}
	}
}

// P13.1: an id is the least one that is not open, whichever heads are closed before, in whatever order.
func TestLeastId(t *testing.T) {
	for _, row := range rows(upTo(4), 4) {
		p := pool(t, 4, api.Event{Ids: []int{1}})
		isOpen := [4]bool{}
		for id := range 4 {
			opens(t, p, id)
			isOpen[id] = true
		}
		for _, id := range row {
			if p.Close(id) != isOpen[id] || p.Close(id) {
				t.Error(row, id)
			}
			isOpen[id] = false
		}
		for id := range isOpen {
			if !isOpen[id] && id%2 == 0 {
				opens(t, p, id)
			} else if from := slices.Index(isOpen[:], true); !isOpen[id] && from >= 0 {
				clones(t, p, from, id)
			} else if !isOpen[id] {
				opens(t, p, id)
			}
			isOpen[id] = true
		}
		if p.Count() != 4 || p.Peak() != 12 {
			t.Error(row, p.Count(), p.Peak())
		}
	}
}

// P13.1: a call with an id that no open head has answers ErrNone, before any other error, and nothing changes.
func TestNoHead(t *testing.T) {
	p := pool(t, 2, api.Event{Time: 1, Ids: []int{1, 2}})
	for round := range 3 {
		for _, id := range append(wrongIds, 0, 1, 2) {
			if where(p, id) >= 0 {
				continue
			}
			if got, no := p.Clone(id); got != 0 || no != api.ErrNone {
				t.Error(round, id, got, no)
			}
			if k, ok := p.Index(id); k != 0 || ok {
				t.Error(round, id, k)
			}
			if p.Close(id) {
				t.Error(round, id)
			}
			stays(t, p, id, api.ErrNone)
			for _, k := range []int{math.MinInt, -1, 0, 1, 2, math.MaxInt} {
				sought(t, p, id, k, api.ErrNone)
			}
		}
		if p.Count() != round {
			t.Error(round, p.Count())
		}
		if round < 2 {
			opens(t, p, round)
		}
	}
}

// P13.1: a full pool opens and clones no head, and nothing changes; it has room again when one is closed.
func TestFull(t *testing.T) {
	for _, size := range []int{1, 2, 3, 64} {
		p := pool(t, size, api.Event{Time: 1, Ids: []int{5}})
		for id := range size {
			opens(t, p, id)
		}
		for id := range size {
			if got, no := p.Open(); got != 0 || no != api.ErrFull {
				t.Error(size, got, no)
			}
			if got, no := p.Clone(id); got != 0 || no != api.ErrFull {
				t.Error(size, id, got, no)
			}
			holds(t, p, 3*size, 3*size)
			if !p.Close(id) || p.Count() != size-1 {
				t.Error(size, id, p.Count())
			}
			opens(t, p, id)
		}
	}
}

// P13.1: a clone is where the other head is and has read the same record; each goes on without the other.
func TestClone(t *testing.T) {
	l := []api.Event{{Time: 5, Ids: []int{0, 7, 63}}, {Time: 5}, {Time: 6, Ids: []int{1}}}
	p := pool(t, 5, append(l, api.Event{Time: 5, Ids: []int{2}})...)
	opens(t, p, 0)
	clones(t, p, 0, 1)
	tells(t, p, 0, l[0])
	clones(t, p, 0, 2)
	if where(p, 0) != 1 || where(p, 1) != 0 || where(p, 2) != 1 {
		t.Error(where(p, 0), where(p, 1), where(p, 2))
	}
	holds(t, p, 15, 15)
	if !p.Close(0) {
		t.Error("not closed")
	}
	tells(t, p, 2, l[1])
	tells(t, p, 2, l[2])
	clones(t, p, 2, 0)
	clones(t, p, 0, 3)
	for _, id := range []int{3, 0, 2} {
		stays(t, p, id, api.ErrTime)
	}
	tells(t, p, 1, l[0])
	holds(t, p, 6+3*4, 18)
}

// P13.2: the first error of the record that follows is what Next answers, as often as it is asked, and the head stays.
func TestNextErrors(t *testing.T) {
	b := log.Encode(api.Trace{Names: []string{"p", "q"}, Events: []api.Event{{Time: 5, Ids: []int{0, 1}}, {Time: 7, Ids: []int{1}}}})
	late := record.Put(slices.Clone(b), api.Event{Time: 6})
	badSum := slices.Clone(late)
	badSum[len(badSum)-1]++
	lateId := record.Put(slices.Clone(b), api.Event{Time: 6, Ids: []int{2}})
	for i, x := range []struct {
		b     []byte
		fault int
		want  api.Errno
	}{
		{b, -1, api.ErrEnd}, {b, len(b), api.ErrEnd},
		{late, -1, api.ErrTime}, {record.Put(slices.Clone(b), api.Event{Time: 0, Ids: []int{0}}), -1, api.ErrTime},
		{badSum, -1, api.ErrSum}, {lateId, -1, api.ErrOrder}, {late[:len(late)-1], -1, api.ErrShort}, {append(slices.Clone(b), 0), -1, api.ErrShort}, {append(slices.Clone(b), 0, 7), -1, api.ErrForm},
		{late, len(b), api.ErrFault}, {late, len(b) + 1, api.ErrFault}, {late, len(late) - 1, api.ErrFault}, {append(badSum, 0), len(badSum), api.ErrSum},
	} {
		p, no := New(x.b, []int{9, 1}, x.fault, 2)
		if no != api.OK {
			t.Fatal(i, no)
		}
		opens(t, p, 0)
		tells(t, p, 0, api.Event{Time: 5, Ids: []int{0, 1}})
		tells(t, p, 0, api.Event{Time: 7, Ids: []int{1}})
		holds(t, p, 4, 5)
		clones(t, p, 0, 1)
		for range 3 {
			stays(t, p, 0, x.want)
			stays(t, p, 1, x.want)
			sought(t, p, 1, 3, x.want)
			sought(t, p, 1, math.MaxInt, x.want)
		}
		sought(t, p, 0, 1, api.OK)
		tells(t, p, 0, api.Event{Time: 7, Ids: []int{1}})
		stays(t, p, 0, x.want)
		holds(t, p, 8, 9)
	}
}

// P13.2: a Time may be that of the record before, or greater, but not less; the first record has none before it.
func TestTimes(t *testing.T) {
	times := []uint64{0, 1, 2, 1<<63 - 1, 1 << 63, math.MaxUint64 - 1, math.MaxUint64}
	for _, a := range times {
		for _, b := range times {
			p := pool(t, 1, api.Event{Time: a}, api.Event{Time: b, Ids: []int{3}})
			opens(t, p, 0)
			for range 2 {
				tells(t, p, 0, api.Event{Time: a})
				if b < a {
					stays(t, p, 0, api.ErrTime)
				} else {
					tells(t, p, 0, api.Event{Time: b, Ids: []int{3}})
				}
				sought(t, p, 0, 0, api.OK)
			}
		}
	}
}

// P13.2: a Time is held against the record that was read last, not against the greatest one, nor the one at which the head stood earlier.
func TestTimeAfterSeek(t *testing.T) {
	l := []api.Event{{Time: 1}, {Time: 4}, {Time: 9}, {Time: 9}}
	p := pool(t, 2, append(l, api.Event{Time: 8})...)
	opens(t, p, 0)
	opens(t, p, 1)
	sought(t, p, 1, 4, api.OK)
	for k := 4; k >= 0; k-- {
		sought(t, p, 0, k, api.OK)
		for _, e := range l[k:] {
			tells(t, p, 0, e)
		}
		stays(t, p, 0, api.ErrTime)
	}
	stays(t, p, 1, api.ErrTime)
}

// P13.2: Seek leads from everywhere to everywhere, and a negative number goes before all but ErrNone.
func TestSeek(t *testing.T) {
	l := []api.Event{{Time: 1, Ids: upTo(64)}, {Time: 1}, {Time: 2, Ids: upTo(2)}}
	p := pool(t, 1, l...)
	opens(t, p, 0)
	for from := range 4 {
		for to := range 4 {
			sought(t, p, 0, from, api.OK)
			for _, k := range []int{math.MinInt, math.MinInt + 1, -1 << 32, -1} {
				sought(t, p, 0, k, api.ErrArg)
			}
			for _, k := range []int{4, 5, 1 << 32, math.MaxInt} {
				sought(t, p, 0, k, api.ErrEnd)
			}
			sought(t, p, 0, to, api.OK)
			for _, e := range l[to:] {
				tells(t, p, 0, e)
			}
			stays(t, p, 0, api.ErrEnd)
		}
	}
	empty := pool(t, 1)
	opens(t, empty, 0)
	sought(t, empty, 0, 0, api.OK)
	sought(t, empty, 0, 1, api.ErrEnd)
	sought(t, empty, 0, -1, api.ErrArg)
}

// P13.2: a Seek that fails leaves the head what it had read, so that the Times behind it are held against that.
func TestSeekFails(t *testing.T) {
	p := pool(t, 1, api.Event{Time: 4, Ids: []int{1, 2}}, api.Event{Time: 9}, api.Event{Time: 3})
	opens(t, p, 0)
	for k := range 3 {
		sought(t, p, 0, k, api.OK)
		sought(t, p, 0, 3, api.ErrTime)
		sought(t, p, 0, 4, api.ErrTime)
		sought(t, p, 0, -1, api.ErrArg)
		if want := []int{3, 5, 3}[k]; p.Cells() != want {
			t.Error(k, p.Cells())
		}
	}
	stays(t, p, 0, api.ErrTime)
}

// P13.3: 3 cells a head and one for each Id of the record that it read last; Peak holds the greatest number after a call.
func TestCells(t *testing.T) {
	p := pool(t, 3, api.Event{Ids: upTo(4)}, api.Event{Ids: upTo(64)}, api.Event{}, api.Event{Ids: upTo(1)})
	holds(t, p, 0, 0)
	opens(t, p, 0)
	holds(t, p, 3, 3)
	sought(t, p, 0, 3, api.OK) // over the 64 Ids, which it holds after no call
	holds(t, p, 3, 3)
	sought(t, p, 0, 1, api.OK)
	holds(t, p, 7, 7)
	sought(t, p, 0, 5, api.ErrEnd)
	holds(t, p, 7, 7)
	clones(t, p, 0, 1)
	holds(t, p, 14, 14)
	tells(t, p, 1, api.Event{Ids: upTo(64)})
	holds(t, p, 74, 74)
	clones(t, p, 1, 2)
	holds(t, p, 141, 141)
	p.Open()
	p.Clone(1)
	holds(t, p, 141, 141)
	p.Close(1)
	holds(t, p, 74, 141)
	p.Close(1)
	holds(t, p, 74, 141)
	tells(t, p, 2, api.Event{})
	holds(t, p, 10, 141)
	sought(t, p, 2, 4, api.OK)
	holds(t, p, 11, 141)
	stays(t, p, 2, api.ErrEnd)
	sought(t, p, 2, 0, api.OK)
	holds(t, p, 10, 141)
	p.Close(0)
	p.Close(2)
	holds(t, p, 0, 141)
	opens(t, p, 0)
	holds(t, p, 3, 141)
}

// P13.4: heads that go on in turn, each at its own pace, all return the events of the log in order, whatever the script is.
func TestHeadsApart(t *testing.T) {
	l := []api.Event{}
	for i := range 60 {
		l = append(l, api.Event{Time: uint64(i / 4), Ids: upTo(i % 7)})
	}
	b := log.Encode(api.Trace{Names: many(6), Events: l})
	for _, script := range [][]int{nil, {1}, slices.Repeat([]int{1}, 9000), slices.Repeat([]int{0, 17, -3, 2, math.MaxInt}, 900)} {
		p, no := New(b, script, -1, 9)
		if no != api.OK {
			t.Fatal(no)
		}
		at := make([]int, 9)
		for id := range at {
			opens(t, p, id)
		}
		for round := 0; slices.Min(at) < len(l); round++ {
			for id := range at {
				if round%(id+1) != 0 {
					continue
				}
				if at[id] == len(l) {
					stays(t, p, id, api.ErrEnd)
					continue
				}
				tells(t, p, id, l[at[id]])
				at[id]++
			}
		}
	}
}

// R2: what New is given stays as it is, and a pool stays when that is changed afterwards.
func TestOwnMemory(t *testing.T) {
	b := log.Encode(api.Trace{Names: []string{"p", "q"}, Events: []api.Event{{Time: 1, Ids: []int{0, 1}}, {Time: 2, Ids: []int{1}}}})
	script := []int{1, 2, 3, 4, 5, 6, 7, 8}
	given, numbers := slices.Clone(b), slices.Clone(script)
	p, no := New(given, numbers, -1, 2)
	if no != api.OK || !slices.Equal(given, b) || !slices.Equal(numbers, script) {
		t.Fatal(no, given, numbers)
	}
	clear(given)
	clear(numbers)
	opens(t, p, 0)
	tells(t, p, 0, api.Event{Time: 1, Ids: []int{0, 1}})
	tells(t, p, 0, api.Event{Time: 2, Ids: []int{1}})
	stays(t, p, 0, api.ErrEnd)
	if !slices.Equal(p.Names(), []string{"p", "q"}) {
		t.Error(p.Names())
	}
}

// R2: what a call returned belongs to the caller: changing it changes neither the pool nor what another call returned.
func TestResultsApart(t *testing.T) {
	p := pool(t, 2, api.Event{Ids: []int{0, 1}}, api.Event{Ids: []int{2}})
	opens(t, p, 0)
	opens(t, p, 1)
	one, _ := p.Next(0)
	other, _ := p.Next(1)
	one.Ids[0] = 50
	_ = append(one.Ids[:1], 51, 52, 53)
	if !slices.Equal(other.Ids, []int{0, 1}) {
		t.Error(other)
	}
	holds(t, p, 10, 10)
	sought(t, p, 0, 0, api.OK)
	tells(t, p, 0, api.Event{Ids: []int{0, 1}})
	first, second := p.Names(), p.Names()
	clear(first)
	_ = append(first[:1], "zz")
	if !slices.Equal(second, many(64)) || !slices.Equal(p.Names(), many(64)) {
		t.Error(second, p.Names())
	}
}

// R8: pools of the same bytes are apart from each other.
func TestPoolsApart(t *testing.T) {
	l := []api.Event{{Time: 1, Ids: []int{3}}, {Time: 2}}
	one, other := pool(t, 2, l...), pool(t, 2, l...)
	opens(t, one, 0)
	tells(t, one, 0, l[0])
	opens(t, one, 1)
	if other.Count() != 0 || other.Cells() != 0 || other.Peak() != 0 || other.Close(0) {
		t.Error(other.Count(), other.Cells(), other.Peak())
	}
	opens(t, other, 0)
	tells(t, other, 0, l[0])
	tells(t, other, 0, l[1])
	tells(t, one, 0, l[1])
}

// R3: a pool that is none answers nothing, and ErrArg; one that New did not make has room for no head.
func TestNone(t *testing.T) {
	var none *Pool
	for _, x := range []struct {
		p        *Pool
		full, no api.Errno
	}{{none, api.ErrArg, api.ErrArg}, {&Pool{}, api.ErrFull, api.ErrNone}} {
		if id, no := x.p.Open(); id != 0 || no != x.full {
			t.Error(id, no)
		}
		for _, id := range append(wrongIds, 0, 1) {
			if got, no := x.p.Clone(id); got != 0 || no != x.no {
				t.Error(id, got, no)
			}
			stays(t, x.p, id, x.no)
			for _, k := range []int{math.MinInt, -1, 0, 1, math.MaxInt} {
				sought(t, x.p, id, k, x.no)
			}
			if k, ok := x.p.Index(id); k != 0 || ok || x.p.Close(id) {
				t.Error(id, k, ok)
			}
		}
		if len(x.p.Names()) > 0 || x.p.Count() != 0 {
			t.Error(x.p.Names(), x.p.Count())
		}
		holds(t, x.p, 0, 0)
	}
}

// P13.1, P13.3: great numbers of heads, closed and opened again, the least id first.
func TestManyHeads(t *testing.T) {
	const n = 100000
	p := pool(t, math.MaxInt, api.Event{Ids: upTo(2)})
	opens(t, p, 0)
	tells(t, p, 0, api.Event{Ids: upTo(2)})
	for id := 1; id < n; id++ {
		if got, no := p.Clone(0); got != id || no != api.OK {
			t.Fatal(id, got, no)
		}
	}
	holds(t, p, 5*n, 5*n)
	for id := 0; id < n; id += 100 {
		if !p.Close(id) {
			t.Fatal(id)
		}
	}
	holds(t, p, 5*n-n/20, 5*n)
	for id := 0; id < n; id += 100 {
		opens(t, p, id)
	}
	opens(t, p, n)
	if p.Count() != n+1 {
		t.Error(p.Count())
	}
}

// P13.2, P13.4: a long log, over which one head runs far ahead of another.
func TestLongLog(t *testing.T) {
	l := []api.Event{}
	for i := range 50000 {
		l = append(l, api.Event{Time: uint64(i), Ids: upTo(i % 3)})
	}
	p := pool(t, 2, l...)
	opens(t, p, 0)
	sought(t, p, 0, len(l)-1, api.OK)
	opens(t, p, 1)
	for _, e := range l {
		tells(t, p, 1, e)
	}
	tells(t, p, 0, l[len(l)-1])
	stays(t, p, 0, api.ErrEnd)
	stays(t, p, 1, api.ErrEnd)
	sought(t, p, 1, len(l)+1, api.ErrEnd)
}
