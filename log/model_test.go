package log

import (
	"bytes"
	"encoding/binary"
	"hash/adler32"
	"math/rand"
	"regexp"
	"slices"
	"strings"
	"testing"

	"watchglass/api"
)

// reserved are the words that are no names, as chapter 4 lists them.
var reserved = []string{"true", "false", "prev", "next", "once", "hist", "some", "all", "since", "until", "back", "fore"}

var wordForm = regexp.MustCompile(`\A[a-z][a-z0-9_]{0,15}\z`)

// mayNames, mayIds and mayTrace are what chapter 8 says of them.
func mayNames(l []string) bool {
	for i, s := range l {
		if !wordForm.MatchString(s) || slices.Contains(reserved, s) || slices.Index(l, s) < i {
			return false
		}
	}
	return len(l) <= 64
}

func mayIds(l []int, props int) bool {
	for i := range l {
		if l[i] < 0 || l[i] >= props || i > 0 && l[i-1] >= l[i] {
			return false
		}
	}
	return true
}

func mayTrace(t api.Trace) bool {
	for i, e := range t.Events {
		if !mayIds(e.Ids, len(t.Names)) || i > 0 && t.Events[i-1].Time > e.Time {
			return false
		}
	}
	return mayNames(t.Names)
}

// withSum is b followed by its sum.
func withSum(b []byte) []byte {
	return binary.BigEndian.AppendUint32(slices.Clone(b), adler32.Checksum(b))
}

// rawNames are the bytes of names in a header, whatever they are.
func rawNames(l []string) []byte {
	b := []byte{}
	for _, s := range l {
		b = append(append(b, byte(len(s))), s...)
	}
	return b
}

// rawHead is a header of those names, whatever they are, with that number of them, whatever it is.
func rawHead(count int, l ...string) []byte {
	return withSum(append([]byte{'W', 'G', 'L', 1, byte(count)}, rawNames(l)...))
}

// raw is a record with those ids, whatever they are.
func raw(time uint64, ids ...int) []byte {
	b := binary.BigEndian.AppendUint16(nil, uint16(8+len(ids)))
	b = binary.BigEndian.AppendUint64(b, time)
	for _, id := range ids {
		b = append(b, byte(id))
	}
	return withSum(b)
}

// encode is P10.1 word by word.
func encode(t api.Trace) []byte {
	if !mayTrace(t) {
		return nil
	}
	b := rawHead(len(t.Names), t.Names...)
	for _, e := range t.Events {
		b = append(b, raw(e.Time, e.Ids...)...)
	}
	return b
}

// head is P10.2 word by word.
func head(b []byte) ([]string, int, api.Errno) {
	if len(b) < 5 || string(b[:4]) != "WGL\x01" || b[4] > 64 {
		return nil, 0, api.ErrHead
	}
	l, at := []string{}, 5
	for range b[4] {
		if at >= len(b) || at+1+int(b[at]) > len(b) {
			return nil, 0, api.ErrHead
		}
		l = append(l, string(b[at+1:at+1+int(b[at])]))
		at += 1 + int(b[at])
	}
	if at+4 > len(b) || !mayNames(l) || binary.BigEndian.Uint32(b[at:at+4]) != adler32.Checksum(b[:at]) {
		return nil, 0, api.ErrHead
	}
	return l, at + 4, api.OK
}

// get is what chapter 9 says of the record at the beginning of b, where there are bytes.
func get(b []byte, props int) (api.Event, int, api.Errno) {
	if len(b) < 2 {
		return api.Event{}, 0, api.ErrShort
	}
	n := 2 + int(b[0])*256 + int(b[1])
	if n < 10 || n > 10+props {
		return api.Event{}, 0, api.ErrForm
	}
	if len(b) < n+4 {
		return api.Event{}, 0, api.ErrShort
	}
	if binary.BigEndian.Uint32(b[n:n+4]) != adler32.Checksum(b[:n]) {
		return api.Event{}, 0, api.ErrSum
	}
	e := api.Event{Time: binary.BigEndian.Uint64(b[2:10])}
	for _, id := range b[10:n] {
		e.Ids = append(e.Ids, int(id))
	}
	if !mayIds(e.Ids, props) {
		return api.Event{}, 0, api.ErrOrder
	}
	return e, n + 4, api.OK
}

// decode is P10.3 word by word.
func decode(b []byte) (api.Trace, int, api.Errno) {
	l, at, no := head(b)
	if no != api.OK {
		return api.Trace{}, 0, no
	}
	t := api.Trace{Names: l}
	for at < len(b) {
		e, n, no := get(b[at:], len(l))
		if i := len(t.Events); no == api.OK && i > 0 && t.Events[i-1].Time > e.Time {
			no = api.ErrTime
		}
		if no != api.OK {
			return t, len(t.Events), no
		}
		t.Events = append(t.Events, e)
		at += n
	}
	return t, len(t.Events), api.OK
}

// alike tells whether two traces are equal; nil and empty lists are.
func alike(a, b api.Trace) bool {
	return slices.Equal(a.Names, b.Names) && slices.EqualFunc(a.Events, b.Events, func(x, y api.Event) bool {
		return x.Time == y.Time && slices.Equal(x.Ids, y.Ids)
	})
}

// encodesLikeModel fails if Encode writes other bytes than the words of the promise, and if they aren't read again.
func encodesLikeModel(t *testing.T, x api.Trace) {
	t.Helper()
	b := Encode(x)
	if want := encode(x); !bytes.Equal(b, want) {
		t.Errorf("Encode(%v) = %v, want %v", x, b, want)
	}
	if !mayTrace(x) {
		return
	}
	if got, n, no := Decode(b); no != api.OK || n != len(x.Events) || !alike(got, x) {
		t.Errorf("Decode(Encode(%v)) = %v, %d, %v", x, got, n, no)
	}
}

// headsLikeModel fails if Head answers another thing than the words of the promise, and tells the error that it answers.
func headsLikeModel(t *testing.T, b []byte) api.Errno {
	t.Helper()
	l, n, no := Head(b)
	if want, wantN, wantNo := head(b); !slices.Equal(l, want) || n != wantN || no != wantNo {
		t.Errorf("Head(%q) = %q, %d, %v, want %q, %d, %v", b, l, n, no, want, wantN, wantNo)
	}
	return no
}

// decodesLikeModel fails if Decode answers another thing than the words of the promise, or what Encode doesn't write, and tells the error that it answers.
func decodesLikeModel(t *testing.T, b []byte) api.Errno {
	t.Helper()
	x, n, no := Decode(b)
	if want, wantN, wantNo := decode(b); !alike(x, want) || n != wantN || no != wantNo {
		t.Errorf("Decode(%q) = %v, %d, %v, want %v, %d, %v", b, x, n, no, want, wantN, wantNo)
	}
	if n != len(x.Events) {
		t.Errorf("Decode(%q) = %v, %d", b, x, n)
	}
	if no == api.OK && !bytes.Equal(Encode(x), b) || no != api.ErrHead && !bytes.HasPrefix(b, Encode(x)) {
		t.Errorf("Encode(%v) isn't %q, or its front", x, b)
	}
	return no
}

// rows are all lists of up to so many of those things.
func rows[T any](of []T, most int) [][]T {
	out := [][]T{nil}
	for from := 0; most > 0; most-- {
		to := len(out)
		for ; from < to; from++ {
			for _, x := range of {
				out = append(out, append(slices.Clone(out[from]), x))
			}
		}
	}
	return out
}

// P10.1, P10.4: Encode writes of all short traces what the promise says, whether they are valid or not.
func TestEncodeShortTraces(t *testing.T) {
	var all []api.Event
	for _, time := range []uint64{0, 1, 1<<64 - 1} {
		for _, ids := range [][]int{nil, {0}, {1}, {0, 1}, {1, 0}, {1, 1}, {-1}, {2}, {256}} {
			all = append(all, api.Event{Time: time, Ids: ids})
		}
	}
	for _, l := range rows([]string{"p", "q2", "all", ""}, 3) {
		for _, events := range rows(all, 2) {
			encodesLikeModel(t, api.Trace{Names: l, Events: events})
		}
	}
}

// P10.2, P10.3: Head and Decode say of all short lists of names and numbers of them what the promises say, with a right sum, a wrong one and none.
func TestHeadShortNames(t *testing.T) {
	of := []string{"p", "q2", "", "P", "true", "p\x01p", "abcdefghijklmnop", "abcdefghijklmnopq"}
	right := 0
	for _, l := range rows(of, 3) {
		for count := range 5 {
			b := rawHead(count, l...)
			if headsLikeModel(t, b) == api.OK {
				right++
			}
			decodesLikeModel(t, b)
			decodesLikeModel(t, append(b[:len(b):len(b)], raw(3)...))
			headsLikeModel(t, append(b[:len(b):len(b)], rawNames(l)...))
			headsLikeModel(t, b[:len(b)-4])
			b[len(b)-2]++
			headsLikeModel(t, b)
		}
	}
	if right < 10 {
		t.Error(right)
	}
}

// P10.2: Head says of all short rows of bytes where names would stand what the promise says.
func TestHeadShortBytes(t *testing.T) {
	of := []byte{0, 1, 2, 'p', 'q', 255}
	for _, l := range rows(of, 5) {
		for _, count := range []byte{0, 1, 2, 3, 64, 65, 255} {
			b := append([]byte{'W', 'G', 'L', 1, count}, l...)
			headsLikeModel(t, b)
			headsLikeModel(t, withSum(b))
		}
	}
}

// P10.3, P10.4: Decode says of all short rows of records, right and wrong ones, what the promise says.
func TestDecodeShortRows(t *testing.T) {
	badSum := raw(5, 0)
	badSum[len(badSum)-1]++
	pieces := [][]byte{
		raw(0), raw(5, 0), raw(5, 0, 1), raw(4, 1), raw(1<<64 - 1), // right ones, if time allows
		badSum, raw(5, 2), raw(5, 1, 0), raw(5, 1, 1), raw(5, 0, 1, 2), raw(4, 2), // wrong ones
		{0}, {0, 8}, {0, 7}, {255, 255, 1}, raw(9, 1)[:14], // what is no whole record
	}
	seen := map[api.Errno]int{}
	for _, l := range [][]string{nil, {"p"}, {"p", "q"}} {
		h := rawHead(len(l), l...)
		for _, row := range rows(pieces, 3) {
			seen[decodesLikeModel(t, slices.Concat(h, slices.Concat(row...)))]++
		}
	}
	for _, no := range []api.Errno{api.OK, api.ErrShort, api.ErrForm, api.ErrSum, api.ErrOrder, api.ErrTime} {
		if seen[no] < 50 {
			t.Error(no, seen[no])
		}
	}
}

// randomTrace is a trace that is valid, or now and then almost so.
func randomTrace(r *rand.Rand) api.Trace {
	x := api.Trace{}
	for i := range r.Intn(66) {
		x.Names = append(x.Names, "p"+strings.Repeat("_", r.Intn(14))+string(rune('a'+i%26))+string(rune('a'+i/26)))
	}
	for i, s := range x.Names {
		if len(s) > 16 && r.Intn(40) > 0 {
			x.Names[i] = s[len(s)-2:]
		}
	}
	at := r.Uint64() >> r.Intn(64)
	for range r.Intn(8) {
		e := api.Event{Time: at}
		for i := range x.Names {
			if r.Intn(4) == 0 {
				e.Ids = append(e.Ids, i)
			}
		}
		if n := len(e.Ids); n > 0 && r.Intn(20) == 0 {
			e.Ids[r.Intn(n)] += r.Intn(7) - 3
		}
		x.Events = append(x.Events, e)
		at += min(uint64(r.Intn(3)), 1<<64-1-at)
		if r.Intn(40) == 0 {
			at -= min(at, 1)
		}
	}
	return x
}

// spoiled is b with one thing changed, or as it was.
func spoiled(r *rand.Rand, b []byte) []byte {
	b = slices.Clone(b)
	switch r.Intn(6) {
	case 0:
		b[r.Intn(len(b))] ^= byte(1 << r.Intn(8))
	case 1:
		b = b[:r.Intn(len(b)+1)]
	case 2:
		more := make([]byte, r.Intn(20))
		r.Read(more)
		b = append(b, more...)
	case 3:
		b = append(b, raw(r.Uint64()>>r.Intn(64), rows([]int{0, 1, 63, 64}, 2)[r.Intn(21)]...)...)
	case 4:
		i, k := r.Intn(len(b)), r.Intn(len(b))
		b = slices.Concat(b[:min(i, k)], b[max(i, k):])
	}
	return b
}

// P10.1, P10.2, P10.3, P10.4: random traces, and bytes that are almost their logs.
func TestRandomLogs(t *testing.T) {
	r := rand.New(rand.NewSource(10))
	valid, seen := 0, map[api.Errno]int{}
	for range 5000 {
		x := randomTrace(r)
		encodesLikeModel(t, x)
		if !mayTrace(x) {
			continue
		}
		valid++
		for range 4 {
			b := spoiled(r, encode(x))
			headsLikeModel(t, b)
			seen[decodesLikeModel(t, b)]++
		}
	}
	if valid < 1000 || valid > 4900 {
		t.Error(valid)
	}
	for _, no := range []api.Errno{api.OK, api.ErrHead, api.ErrShort, api.ErrForm, api.ErrSum, api.ErrOrder, api.ErrTime} {
		if seen[no] < 50 {
			t.Error(no, seen[no])
		}
	}
}
