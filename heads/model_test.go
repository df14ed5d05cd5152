package heads

import (
	"math"
	"math/rand"
	"slices"
	"strconv"
	"testing"

	"watchglass/api"
	"watchglass/log"
	"watchglass/record"
	"watchglass/scan"
	"watchglass/source"
)

// model is a pool as the promises see it: what a head answers hangs on how many records are before it, and on nothing else.
type model struct {
	names  []string
	events []api.Event // the right ones
	end    api.Errno   // of the record behind them
	size   int
	open   map[int]int // by id, how many records are before a head
	peak   int
}

// newModel is P13.1 of New. Each record is read from a source of its own, without a script.
func newModel(b []byte, fault, size int) (*model, api.Errno) {
	if size < 1 {
		return nil, api.ErrArg
	}
	l, at, no := scan.Head(source.New(b, nil, fault))
	if no != api.OK {
		return nil, no
	}
	m := &model{names: l, size: size, open: map[int]int{}}
	for m.end == api.OK {
		e, next, no := scan.Record(source.New(b, nil, fault), at, len(l))
		if n := len(m.events); no == api.OK && n > 0 && e.Time < m.events[n-1].Time {
			no = api.ErrTime
		}
		if m.end = no; no == api.OK {
			m.events, at = append(m.events, e), next
		}
	}
	return m, api.OK
}

// cells is P13.3.
func (m *model) cells() int {
	n := 0
	for _, k := range m.open {
		n += 3
		if k > 0 {
			n += len(m.events[k-1].Ids)
		}
	}
	return n
}

// put opens a head with k records before it, under the least id that is free.
func (m *model) put(k int) (int, api.Errno) {
	if len(m.open) == m.size {
		return 0, api.ErrFull
	}
	for id := 0; ; id++ {
		if _, ok := m.open[id]; !ok {
			m.open[id] = k
			return id, api.OK
		}
	}
}

func (m *model) clone(id int) (int, api.Errno) {
	k, ok := m.open[id]
	if !ok {
		return 0, api.ErrNone
	}
	return m.put(k)
}

func (m *model) next(id int) (api.Event, api.Errno) {
	k, ok := m.open[id]
	if !ok {
		return api.Event{}, api.ErrNone
	}
	if k == len(m.events) {
		return api.Event{}, m.end
	}
	m.open[id]++
	return m.events[k], api.OK
}

func (m *model) seek(id, k int) api.Errno {
	if _, ok := m.open[id]; !ok {
		return api.ErrNone
	}
	if k < 0 {
		return api.ErrArg
	}
	if k > len(m.events) {
		return m.end
	}
	m.open[id] = k
	return api.OK
}

// alike tells whether two events are equal; nil and empty lists are.
func alike(a, b api.Event) bool { return a.Time == b.Time && slices.Equal(a.Ids, b.Ids) }

// step is a call of a pool: its name, and up to two arguments.
type step struct {
	call  string
	id, k int
}

func (s step) String() string {
	return s.call + "(" + strconv.Itoa(s.id) + "," + strconv.Itoa(s.k) + ")"
}

// both makes a call of the pool and of the model, and tells whether they answer the same, and the error.
func (s step) both(p *Pool, m *model) (bool, api.Errno) {
	switch s.call {
	case "Open":
		id, no := p.Open()
		want, wantNo := m.put(0)
		return id == want && no == wantNo, no
	case "Clone":
		id, no := p.Clone(s.id)
		want, wantNo := m.clone(s.id)
		return id == want && no == wantNo, no
	case "Next":
		e, no := p.Next(s.id)
		want, wantNo := m.next(s.id)
		return alike(e, want) && no == wantNo, no
	case "Seek":
		no := p.Seek(s.id, s.k)
		return no == m.seek(s.id, s.k), no
	}
	_, want := m.open[s.id]
	delete(m.open, s.id)
	return p.Close(s.id) == want, api.OK
}

// looksLike tells whether the pool tells of itself what the model has.
func looksLike(p *Pool, m *model) bool {
	m.peak = max(m.peak, m.cells())
	for id := -1; id <= len(m.open)+2; id++ {
		want, wantOK := m.open[id]
		if k, ok := p.Index(id); k != want || ok != wantOK {
			return false
		}
	}
	return p.Count() == len(m.open) && p.Cells() == m.cells() && p.Peak() == m.peak && slices.Equal(p.Names(), m.names)
}

// goesLikeModel fails if a row of calls of a pool answers other things than the words of the promises, and counts the errors.
func goesLikeModel(t *testing.T, b []byte, script []int, fault, size int, row []step, seen map[api.Errno]int) {
	t.Helper()
	p, no := New(b, script, fault, size)
	m, want := newModel(b, fault, size)
	seen[no]++
	if no != want || (p == nil) != (no != api.OK) {
		t.Errorf("%q, fault %d, size %d: New = %v, want %v", b, fault, size, no, want)
		return
	}
	if p == nil {
		return
	}
	for i, s := range row {
		ok, no := s.both(p, m)
		seen[no]++
		if !ok || !looksLike(p, m) {
			t.Fatalf("%q, script %v, fault %d, size %d, calls %v: not as the model", b, script, fault, size, row[:i+1])
		}
	}
}

// rows are all lists of up to so many of those things.
func rows[T any](of []T, most int) [][]T {
	out := [][]T{nil}
	for from := 0; most > 0; most-- {
		to := len(out)
		for ; from < to; from++ {
			for _, x := range of {
				out = append(out, append(slices.Clone(out[from]), x))
			}
		}
	}
	return out
}

// P13.1, P13.2, P13.3, P13.4: all short rows of calls of two heads, behind two that open heads.
func TestShortRows(t *testing.T) {
	b := log.Encode(api.Trace{Names: []string{"p", "q"}, Events: []api.Event{{Time: 3, Ids: []int{0, 1}}, {Time: 3}, {Time: 8, Ids: []int{1}}}})
	late := record.Put(slices.Clone(b), api.Event{Time: 7})
	of := []step{
		{call: "Open"}, {call: "Clone"}, {call: "Clone", id: 1}, {call: "Close"}, {call: "Close", id: 1},
		{call: "Next"}, {call: "Next", id: 1}, {call: "Seek", k: 2}, {call: "Seek", id: 1, k: 1}, {call: "Seek", k: 4}, {call: "Seek", k: -1},
	}
	seen := map[api.Errno]int{}
	for _, row := range rows(of, 4) {
		row = append([]step{{call: "Open"}, {call: "Next"}}, row...)
		goesLikeModel(t, b, []int{4, 1, 30}, -1, 2, row, seen)
		goesLikeModel(t, late, nil, -1, 3, row, seen)
		goesLikeModel(t, late, nil, len(b), 1, row, seen)
	}
	for _, no := range []api.Errno{api.OK, api.ErrArg, api.ErrNone, api.ErrFull, api.ErrEnd, api.ErrTime, api.ErrFault} {
		if seen[no] < 1000 {
			t.Error(no, seen[no])
		}
	}
}

// P13.1, P13.2, P13.3: pools of one log with every fault and every length that is cut off.
func TestEveryFault(t *testing.T) {
	b := log.Encode(api.Trace{Names: []string{"p", "q2"}, Events: []api.Event{{Time: 1, Ids: []int{1}}, {Time: 1 << 63, Ids: []int{0, 1}}}})
	row := []step{{call: "Open"}, {call: "Open"}, {call: "Seek", id: 1, k: 1}, {call: "Next"}, {call: "Next"}, {call: "Next"}, {call: "Seek", id: 1, k: 3}, {call: "Next", id: 1}, {call: "Next", id: 1}}
	seen := map[api.Errno]int{}
	for n := range len(b) + 1 {
		for _, size := range []int{math.MinInt, -1, 0, 1, 2, 3, math.MaxInt} {
			goesLikeModel(t, b, nil, n, size, row, seen)
			goesLikeModel(t, b[:n], []int{1, 1, 1, 1, 1}, -1, size, row, seen)
			goesLikeModel(t, b[:n], nil, n/2, size, row, seen)
		}
	}
	for _, no := range []api.Errno{api.OK, api.ErrArg, api.ErrHead, api.ErrFault, api.ErrShort, api.ErrEnd, api.ErrNone, api.ErrFull} {
		if seen[no] < 20 {
			t.Error(no, seen[no])
		}
	}
}

// randomLog is the bytes of a log, now and then with one thing changed.
func randomLog(r *rand.Rand) []byte {
	x := api.Trace{Names: []string{"a", "b", "c", "d", "e", "f"}[:r.Intn(7)]}
	at := r.Uint64() >> r.Intn(64)
	for range r.Intn(12) {
		e := api.Event{Time: at}
		for id := range x.Names {
			if r.Intn(3) == 0 {
				e.Ids = append(e.Ids, id)
			}
		}
		x.Events = append(x.Events, e)
		at += min(uint64(r.Intn(3)), math.MaxUint64-at)
	}
	b := log.Encode(x)
	switch r.Intn(8) {
	case 0:
		b[r.Intn(len(b))] ^= byte(1 << r.Intn(8))
	case 1:
		b = b[:r.Intn(len(b)+1)]
	case 2:
		b = record.Put(b, api.Event{Time: r.Uint64() >> r.Intn(64)})
	case 3:
		b = record.Put(b, api.Event{Time: math.MaxUint64, Ids: []int{r.Intn(8)}})
	}
	return b
}

// randomNumbers are some numbers, most of them small, and now and then one at an end of int.
func randomNumbers(r *rand.Rand, most int) []int {
	l := []int{}
	for range r.Intn(most + 1) {
		l = append(l, []int{math.MinInt, math.MaxInt, r.Intn(40) - 5, r.Intn(9), r.Intn(9)}[r.Intn(5)])
	}
	return l
}

// randomRow is some calls, few of which are refused.
func randomRow(r *rand.Rand) []step {
	row := []step{}
	for range r.Intn(60) {
		s := step{call: []string{"Open", "Clone", "Clone", "Next", "Next", "Next", "Next", "Next", "Seek", "Seek", "Close"}[r.Intn(11)], id: r.Intn(6), k: r.Intn(12)}
		switch r.Intn(20) {
		case 0:
			s.id = []int{math.MinInt, -1, 99, math.MaxInt}[r.Intn(4)]
		case 1:
			s.k = []int{math.MinInt, -1, 99, math.MaxInt}[r.Intn(4)]
		}
		row = append(row, s)
	}
	return row
}

// P13.1, P13.2, P13.3, P13.4: random rows of calls of random pools.
func TestRandomPools(t *testing.T) {
	r := rand.New(rand.NewSource(13))
	seen := map[api.Errno]int{}
	for range 8000 {
		b, fault, size := randomLog(r), -1, []int{0, 1, 2, 3, 5, 8, math.MaxInt}[r.Intn(7)]
		if r.Intn(3) == 0 {
			fault = r.Intn(len(b) + 2)
		}
		goesLikeModel(t, b, randomNumbers(r, 50), fault, size, randomRow(r), seen)
	}
	for no, n := range map[api.Errno]int{
		api.OK: 50000, api.ErrNone: 10000, api.ErrFull: 1000, api.ErrEnd: 1000, api.ErrArg: 500, api.ErrFault: 500,
		api.ErrHead: 100, api.ErrTime: 100, api.ErrSum: 50, api.ErrShort: 50, api.ErrForm: 50, api.ErrOrder: 50,
	} {
		if seen[no] < n {
			t.Error(no, seen[no])
		}
	}
}
