package record

import (
	"bytes"
	"encoding/binary"
	"hash/adler32"
	"math/rand"
	"slices"
	"testing"

	"watchglass/api"
)

// rises is what the chapter asks of ids, word by word.
func rises(ids []int, props int) bool {
	for i := range ids {
		if ids[i] < 0 || ids[i] >= props || i > 0 && ids[i-1] >= ids[i] {
			return false
		}
	}
	return true
}

// withSum is b followed by its sum.
func withSum(b []byte) []byte {
	return binary.BigEndian.AppendUint32(slices.Clone(b), adler32.Checksum(b))
}

// raw is a record with that L, whatever it is, and those ids, whatever they are.
func raw(l int, time uint64, ids ...byte) []byte {
	b := binary.BigEndian.AppendUint16(nil, uint16(l))
	return withSum(append(binary.BigEndian.AppendUint64(b, time), ids...))
}

// put is P9.1 word by word.
func put(b []byte, e api.Event) []byte {
	if !rises(e.Ids, 64) {
		return b
	}
	ids := []byte{}
	for _, id := range e.Ids {
		ids = append(ids, byte(id))
	}
	return append(slices.Clone(b), raw(8+len(e.Ids), e.Time, ids...)...)
}

// get is P9.2 word by word.
func get(b []byte, props int) (api.Event, int, api.Errno) {
	if props < 0 {
		props = 0
	}
	if props > 64 {
		props = 64
	}
	if len(b) == 0 {
		return api.Event{}, 0, api.ErrEnd
	}
	if len(b) == 1 {
		return api.Event{}, 0, api.ErrShort
	}
	l := int(b[0])*256 + int(b[1])
	if l < 8 || l > 8+props {
		return api.Event{}, 0, api.ErrForm
	}
	if len(b) < 2+l+4 {
		return api.Event{}, 0, api.ErrShort
	}
	if !bytes.Equal(withSum(b[:2+l]), b[:2+l+4]) {
		return api.Event{}, 0, api.ErrSum
	}
	e := api.Event{Time: binary.BigEndian.Uint64(b[2:10])}
	for _, id := range b[10 : 2+l] {
		e.Ids = append(e.Ids, int(id))
	}
	if !rises(e.Ids, props) {
		return api.Event{}, 0, api.ErrOrder
	}
	return e, 2 + l + 4, api.OK
}

// alike tells whether two events are equal; nil and empty lists are.
func alike(a, b api.Event) bool { return a.Time == b.Time && slices.Equal(a.Ids, b.Ids) }

// putsLikeModel fails if Put writes other bytes than the words of the promise.
func putsLikeModel(t *testing.T, b []byte, e api.Event) {
	t.Helper()
	if got, want := Put(b, e), put(b, e); !bytes.Equal(got, want) {
		t.Errorf("Put(%v, %v) = %v, want %v", b, e, got, want)
	}
}

// getsLikeModel fails if Get answers another thing than the words of the promise, and tells the error that it answers.
func getsLikeModel(t *testing.T, b []byte, props int) api.Errno {
	t.Helper()
	e, n, no := Get(b, props)
	if want, wantN, wantNo := get(b, props); !alike(e, want) || n != wantN || no != wantNo {
		t.Errorf("Get(%v, %d) = %v, %d, %v, want %v, %d, %v", b, props, e, n, no, want, wantN, wantNo)
	}
	return no
}

// lists are all lists of up to so many of those numbers.
func lists(of []int, most int) [][]int {
	out := [][]int{nil}
	for from := 0; most > 0; most-- {
		to := len(out)
		for ; from < to; from++ {
			for _, x := range of {
				out = append(out, append(slices.Clone(out[from]), x))
			}
		}
	}
	return out
}

// P9.1: Put writes of all short lists of ids what the promise says, whether they may be ids or not.
func TestPutShortLists(t *testing.T) {
	for _, ids := range lists(edges, 3) {
		for _, b := range [][]byte{nil, {}, {7}, {0, 8, 255}} {
			putsLikeModel(t, b, api.Event{Time: 1<<63 + 5, Ids: ids})
		}
	}
	for _, ids := range lists([]int{0, 1, 2, 62, 63}, 5) {
		putsLikeModel(t, []byte{1}, api.Event{Ids: ids})
	}
}

// P9.2: Get says of every L what the promise says, whatever props is and however much is behind it.
func TestGetEveryL(t *testing.T) {
	long := make([]byte, 1<<16+100)
	for l := range 1 << 16 {
		long[0], long[1] = byte(l>>8), byte(l)
		for _, props := range []int{0, 1, 63, 64, 65} {
			getsLikeModel(t, long[:2], props)
			if no := getsLikeModel(t, long, props); (no == api.ErrForm) != (l < 8 || l > 8+min(props, 64)) {
				t.Error(l, props, no)
			}
		}
	}
}

// P9.2: Get says of all short lists of bytes as ids what the promise says, with a right sum and with a wrong one.
func TestGetShortLists(t *testing.T) {
	of := []int{0, 1, 2, 63, 64, 255}
	for _, l := range lists(of, 3) {
		ids := []byte{}
		for _, id := range l {
			ids = append(ids, byte(id))
		}
		for more := -2; more <= 2; more++ {
			b := raw(8+len(l)+more, 9, ids...)
			for _, props := range edges {
				getsLikeModel(t, b, props)
				getsLikeModel(t, append(b[:len(b):len(b)], b...), props)
			}
			b[len(b)-1]++
			for _, props := range []int{-1, 0, 1, 2, 3, 64} {
				getsLikeModel(t, b, props)
			}
		}
	}
}

// randomEvent is an event that has a record, or now and then almost so.
func randomEvent(r *rand.Rand) api.Event {
	e := api.Event{Time: r.Uint64() >> r.Intn(64)}
	one := 1 + r.Intn(20)
	for id := range 64 {
		if r.Intn(one) == 0 {
			e.Ids = append(e.Ids, id)
		}
	}
	if n := len(e.Ids); n > 0 && r.Intn(4) == 0 {
		e.Ids[r.Intn(n)] += r.Intn(9) - 4
	}
	return e
}

// P9.1, P9.2: random events, and bytes that are almost their records.
func TestRandomRecords(t *testing.T) {
	r := rand.New(rand.NewSource(9))
	seen := map[api.Errno]int{}
	for range 20000 {
		e := randomEvent(r)
		before := make([]byte, r.Intn(4))
		r.Read(before)
		putsLikeModel(t, before, e)
		ids := []byte{}
		for _, id := range e.Ids {
			ids = append(ids, byte(id))
		}
		b := raw(8+len(ids), e.Time, ids...)
		switch r.Intn(5) {
		case 0:
			b[r.Intn(len(b))] ^= byte(1 << r.Intn(8))
		case 1:
			b = b[:r.Intn(len(b)+1)]
		case 2:
			more := make([]byte, r.Intn(20))
			r.Read(more)
			b = append(b, more...)
		}
		seen[getsLikeModel(t, b, r.Intn(70)-2)]++
		seen[getsLikeModel(t, b, 64)]++
	}
	for _, no := range []api.Errno{api.OK, api.ErrEnd, api.ErrShort, api.ErrForm, api.ErrSum, api.ErrOrder} {
		if seen[no] < 50 {
			t.Error(no, seen[no])
		}
	}
}
