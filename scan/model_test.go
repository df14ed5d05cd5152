package scan

import (
	"encoding/binary"
	"hash/adler32"
	"math"
	"math/rand"
	"regexp"
	"slices"
	"strings"
	"testing"

	"watchglass/api"
	"watchglass/log"
	"watchglass/record"
	"watchglass/source"
)

// reserved are the words that are no names, as chapter 4 lists them.
var reserved = []string{"true", "false", "prev", "next", "once", "hist", "some", "all", "since", "until", "back", "fore"}

var wordForm = regexp.MustCompile(`\A[a-z][a-z0-9_]{0,15}\z`)

// withSum is b followed by its sum.
func withSum(b []byte) []byte {
	return binary.BigEndian.AppendUint32(slices.Clone(b), adler32.Checksum(b))
}

// rawNames are the bytes of a header up to its sum, with that number of names, whatever it is, and those names, whatever they are.
func rawNames(count int, l ...string) []byte {
	b := []byte{'W', 'G', 'L', 1, byte(count)}
	for _, s := range l {
		b = append(append(b, byte(len(s))), s...)
	}
	return b
}

// raw is a record with those ids, whatever they are.
func raw(time uint64, ids ...int) []byte {
	b := binary.BigEndian.AppendUint16(nil, uint16(8+len(ids)))
	b = binary.BigEndian.AppendUint64(b, time)
	for _, id := range ids {
		b = append(b, byte(id))
	}
	return withSum(b)
}

// model is a source as the promises see it: script or not, its bytes are what matters.
type model struct {
	b     []byte
	fault int
}

// open is the number of bytes that can be read.
func (m model) open() int {
	if m.fault < 0 || m.fault >= len(m.b) {
		return len(m.b)
	}
	return m.fault
}

// part is what is wrong with n bytes from at on, before their values are looked at.
func (m model) part(at, n int) api.Errno {
	for i := at; i < at+n; i++ {
		if i >= len(m.b) {
			return api.ErrHead
		}
		if i >= m.open() {
			return api.ErrFault
		}
	}
	return api.OK
}

// head is P12.1 word by word.
func (m model) head() ([]string, int, api.Errno) {
	if no := m.part(0, 5); no != api.OK {
		return nil, 0, no
	}
	if string(m.b[:4]) != "WGL\x01" || m.b[4] > 64 {
		return nil, 0, api.ErrHead
	}
	l, at := []string{}, 5
	for range m.b[4] {
		if no := m.part(at, 1); no != api.OK {
			return nil, 0, no
		}
		n := int(m.b[at])
		if n < 1 || n > 16 {
			return nil, 0, api.ErrHead
		}
		if no := m.part(at+1, n); no != api.OK {
			return nil, 0, no
		}
		name := string(m.b[at+1 : at+1+n])
		if !wordForm.MatchString(name) || slices.Contains(reserved, name) || slices.Contains(l, name) {
			return nil, 0, api.ErrHead
		}
		l = append(l, name)
		at += 1 + n
	}
	if no := m.part(at, 4); no != api.OK {
		return nil, 0, no
	}
	if binary.BigEndian.Uint32(m.b[at:at+4]) != adler32.Checksum(m.b[:at]) {
		return nil, 0, api.ErrHead
	}
	return l, at + 4, api.OK
}

// record is P12.2 word by word.
func (m model) record(at, props int) (api.Event, int, api.Errno) {
	if at < 0 {
		return api.Event{}, 0, api.ErrArg
	}
	if at >= len(m.b) {
		return api.Event{}, 0, api.ErrEnd
	}
	e, n, no := record.Get(m.b[min(at, m.open()):m.open()], props)
	if (no == api.ErrEnd || no == api.ErrShort) && m.open() < len(m.b) {
		no = api.ErrFault
	}
	if no != api.OK {
		return api.Event{}, 0, no
	}
	return e, at + n, api.OK
}

// headsLikeModel fails if Head answers another thing than the words of the promise, and tells the error that it answers.
func headsLikeModel(t *testing.T, b []byte, script []int, fault int) api.Errno {
	t.Helper()
	l, n, no := Head(source.New(b, script, fault))
	if want, wantN, wantNo := (model{b, fault}).head(); !slices.Equal(l, want) || n != wantN || no != wantNo {
		t.Errorf("%q, script %v, fault %d: Head = %q, %d, %v, want %q, %d, %v", b, script, fault, l, n, no, want, wantN, wantNo)
	}
	return no
}

// recordsLikeModel fails if Record answers another thing than the words of the promise, and tells the error that it answers.
func recordsLikeModel(t *testing.T, b []byte, script []int, fault, at, props int) api.Errno {
	t.Helper()
	e, n, no := Record(source.New(b, script, fault), at, props)
	if want, wantN, wantNo := (model{b, fault}).record(at, props); !alike(e, want) || n != wantN || no != wantNo {
		t.Errorf("%q, script %v, fault %d: Record(%d, %d) = %v, %d, %v, want %v, %d, %v",
			b, script, fault, at, props, e, n, no, want, wantN, wantNo)
	}
	return no
}

// alike tells whether two events are equal; nil and empty lists are.
func alike(a, b api.Event) bool { return a.Time == b.Time && slices.Equal(a.Ids, b.Ids) }

// decode reads a log as P12.3 has it: the header, and then record by record, from one source.
func decode(s *source.Source) (api.Trace, int, api.Errno) {
	l, at, no := Head(s)
	if no != api.OK {
		return api.Trace{}, 0, no
	}
	t := api.Trace{Names: l}
	for {
		e, next, no := Record(s, at, len(l))
		if n := len(t.Events); no == api.OK && n > 0 && e.Time < t.Events[n-1].Time {
			no = api.ErrTime
		}
		if no == api.ErrEnd {
			return t, len(t.Events), api.OK
		}
		if no != api.OK {
			return t, len(t.Events), no
		}
		t.Events, at = append(t.Events, e), next
	}
}

// decodesLikeLog fails if a source without a fault is read in another way than log.Decode reads its bytes, and tells the error.
func decodesLikeLog(t *testing.T, b []byte, script []int) api.Errno {
	t.Helper()
	x, n, no := decode(source.New(b, script, -1))
	want, wantN, wantNo := log.Decode(b)
	if !slices.Equal(x.Names, want.Names) || !slices.EqualFunc(x.Events, want.Events, alike) || n != wantN || no != wantNo {
		t.Errorf("%q, script %v: read as %v, %d, %v, want %v, %d, %v", b, script, x, n, no, want, wantN, wantNo)
	}
	return no
}

// rows are all lists of up to so many of those things.
func rows[T any](of []T, most int) [][]T {
	out := [][]T{nil}
	for from := 0; most > 0; most-- {
		to := len(out)
		for ; from < to; from++ {
			for _, x := range of {
				out = append(out, append(slices.Clone(out[from]), x))
			}
		}
	}
	return out
}

// ones is a script that gives bytes one by one, n times.
func ones(n int) []int { return slices.Repeat([]int{1}, n) }

// P12.1: headers of all short lists of names, right and wrong ones, with every number of them, every length and every fault.
func TestHeadShortNames(t *testing.T) {
	of := []string{"p", "q2", "", "P", "true", "p\x01p", "abcdefghijklmnop", "abcdefghijklmnopq"}
	seen := map[api.Errno]int{}
	for _, l := range rows(of, 2) {
		for count := range 4 {
			b := append(withSum(rawNames(count, l...)), 0, 8)
			for n := range len(b) + 1 {
				seen[headsLikeModel(t, b[:n], nil, -1)]++
				seen[headsLikeModel(t, b, ones(9), n)]++
				seen[headsLikeModel(t, b[:n], []int{2, 3}, n-3)]++
			}
		}
	}
	for _, no := range []api.Errno{api.OK, api.ErrHead, api.ErrFault} {
		if seen[no] < 50 {
			t.Error(no, seen[no])
		}
	}
}

// P12.1: all short rows of bytes where names would stand, with every fault.
func TestHeadShortBytes(t *testing.T) {
	for _, l := range rows([]byte{0, 1, 2, 'p', 'q', 17}, 4) {
		for _, count := range []int{0, 1, 2, 64, 65, 255} {
			b := append(rawNames(count), l...)
			headsLikeModel(t, withSum(b), []int{4}, -1)
			for fault := range len(b) + 1 {
				headsLikeModel(t, b, nil, fault)
			}
		}
	}
}

// P12.1: every byte of a header in the place of every other one, with a sum that is right again and with one that is not.
func TestHeadEveryByte(t *testing.T) {
	b := rawNames(2, "p1", "all_")
	for i := range b {
		for x := range 256 {
			c := slices.Clone(b)
			c[i] = byte(x)
			headsLikeModel(t, withSum(c), nil, -1)
			headsLikeModel(t, append(c, withSum(b)[len(b):]...), ones(30), -1)
			headsLikeModel(t, withSum(c), nil, i+1)
		}
	}
}

// P12.2: all short rows of records, right and wrong ones, from every index on, with every fault and length.
func TestRecordShortRows(t *testing.T) {
	badSum := raw(5, 0)
	badSum[len(badSum)-1]++
	pieces := [][]byte{
		raw(0), raw(5, 0, 1), raw(1<<64-1, 1),
		badSum, raw(5, 2), raw(5, 1, 0), raw(5, 0, 1, 2),
		{0}, {0, 8}, {0, 7}, {255, 255, 1}, raw(9, 1)[:14],
	}
	seen := map[api.Errno]int{}
	for _, row := range rows(pieces, 2) {
		b := slices.Concat(row...)
		for at := -1; at <= len(b)+1; at++ {
			for _, props := range []int{-1, 0, 1, 2, 64} {
				seen[recordsLikeModel(t, b, nil, -1, at, props)]++
				seen[recordsLikeModel(t, b, []int{1, 2}, at, at, props)]++
				seen[recordsLikeModel(t, b, nil, at+1, at, props)]++
				seen[recordsLikeModel(t, b, ones(20), at+2, at, props)]++
				seen[recordsLikeModel(t, b, nil, at+13, at, props)]++
				seen[recordsLikeModel(t, b, []int{14}, at+14, at, props)]++
				seen[recordsLikeModel(t, b, nil, len(b)-1, at, props)]++
			}
		}
	}
	for _, no := range []api.Errno{api.OK, api.ErrArg, api.ErrEnd, api.ErrShort, api.ErrFault, api.ErrForm, api.ErrSum, api.ErrOrder} {
		if seen[no] < 100 {
			t.Error(no, seen[no])
		}
	}
}

// randomTrace is a trace with names of all lengths.
func randomTrace(r *rand.Rand) api.Trace {
	x := api.Trace{}
	for i := range r.Intn(65) {
		x.Names = append(x.Names, strings.Repeat("p", 1+r.Intn(14))+string(rune('a'+i%26))+string(rune('a'+i/26)))
	}
	at := r.Uint64() >> r.Intn(64)
	for range r.Intn(8) {
		e := api.Event{Time: at}
		for i := range x.Names {
			if r.Intn(4) == 0 {
				e.Ids = append(e.Ids, i)
			}
		}
		x.Events = append(x.Events, e)
		at += min(uint64(r.Intn(3)), 1<<64-1-at)
	}
	return x
}

// spoiled is b with one thing changed, or as it was.
func spoiled(r *rand.Rand, b []byte) []byte {
	b = slices.Clone(b)
	switch r.Intn(6) {
	case 0:
		b[r.Intn(len(b))] ^= byte(1 << r.Intn(8))
	case 1:
		b = b[:r.Intn(len(b)+1)]
	case 2:
		more := make([]byte, r.Intn(20))
		r.Read(more)
		b = append(b, more...)
	case 3:
		b = append(b, raw(r.Uint64()>>r.Intn(64), rows([]int{0, 1, 63, 64}, 2)[r.Intn(21)]...)...)
	case 4:
		i, k := r.Intn(len(b)), r.Intn(len(b))
		b = slices.Concat(b[:min(i, k)], b[max(i, k):])
	}
	return b
}

// randomScript is a script, most of whose numbers are small.
func randomScript(r *rand.Rand) []int {
	l := []int{}
	for range r.Intn(200) {
		switch r.Intn(20) {
		case 0:
			l = append(l, math.MaxInt)
		case 1:
			l = append(l, math.MinInt)
		default:
			l = append(l, r.Intn(30)-3)
		}
	}
	return l
}

// P12.1, P12.2, P12.3: random logs, and bytes that are almost logs, by random scripts, without a fault and with one.
func TestRandomLogs(t *testing.T) {
	r := rand.New(rand.NewSource(12))
	heads, records, whole := map[api.Errno]int{}, map[api.Errno]int{}, map[api.Errno]int{}
	for range 10000 {
		right := log.Encode(randomTrace(r))
		b, script := spoiled(r, right), randomScript(r)
		whole[decodesLikeLog(t, b, script)]++
		fault := r.Intn(len(right) + 1)
		heads[headsLikeModel(t, b, script, fault)]++
		l, at, no := log.Head(right)
		if no != api.OK {
			t.Fatal(no)
		}
		for range r.Intn(4) {
			if _, n, no := record.Get(right[at:], len(l)); no == api.OK {
				at += n
			}
		}
		if r.Intn(4) == 0 {
			at = r.Intn(len(right))
		}
		records[recordsLikeModel(t, b, script, at+r.Intn(90)-5, at, len(l)-r.Intn(2))]++
	}
	for no, n := range map[api.Errno]int{
		api.OK: min(heads[api.OK], records[api.OK], whole[api.OK]), api.ErrHead: min(heads[api.ErrHead], whole[api.ErrHead]),
		api.ErrFault: min(heads[api.ErrFault], records[api.ErrFault]), api.ErrEnd: records[api.ErrEnd],
		api.ErrForm: min(records[api.ErrForm], whole[api.ErrForm]), api.ErrShort: min(records[api.ErrShort], whole[api.ErrShort]),
		api.ErrSum: min(records[api.ErrSum], whole[api.ErrSum]), api.ErrOrder: min(records[api.ErrOrder], whole[api.ErrOrder]), api.ErrTime: whole[api.ErrTime],
	} {
		if n < 15 {
			t.Error(no, n, heads, records, whole)
		}
	}
}
