package record

import (
	"bytes"
	"math"
	"slices"
	"testing"

	"watchglass/api"
)

// edges are numbers around the limits of ids, those whose last byte would be an id, and the ends of int.
var edges = []int{math.MinInt, math.MinInt + 1, -256, -255, -2, -1, 0, 1, 2, 3, 62, 63, 64, 65, 127, 128, 255, 256, 257, 1 << 16, 1 << 32, 1<<32 + 1, 1 << 62, math.MaxInt}

// times differ in each byte, and are the least and the greatest.
var times = []uint64{0, 1, 255, 256, 1<<32 - 1, 1 << 32, 1<<63 - 1, 1 << 63, math.MaxUint64, 0x0102030405060708, 0xf1e2d3c4b5a69788}

// upTo are the ids below n.
func upTo(n int) []int {
	l := []int{}
	for i := range n {
		l = append(l, i)
	}
	return l
}

// events are some that have records.
func events() []api.Event {
	out := []api.Event{}
	for i, time := range times {
		for _, ids := range [][]int{nil, {}, {i}, {63}, {0, 63}, {0, 1, 2, 3}, {i, i + 7, i + 50}, upTo(63), upTo(64)} {
			out = append(out, api.Event{Time: time, Ids: slices.Clone(ids)})
		}
	}
	return out
}

// refused fails unless Get answers that error, and nothing beside it.
func refused(t *testing.T, b []byte, props int, want api.Errno) {
	t.Helper()
	if e, n, no := Get(b, props); no != want || n != 0 || e.Time != 0 || len(e.Ids) > 0 {
		t.Errorf("Get(%v, %d) = %v, %d, %v, want %v", b, props, e, n, no, want)
	}
}

// taken fails unless Get answers that event and that number of bytes.
func taken(t *testing.T, b []byte, props int, want api.Event, size int) {
	t.Helper()
	if e, n, no := Get(b, props); no != api.OK || n != size || !alike(e, want) {
		t.Errorf("Get(%v, %d) = %v, %d, %v, want %v, %d", b, props, e, n, no, want, size)
	}
}

// P9.1, P9.2: records that are known byte by byte.
func TestKnown(t *testing.T) {
	for _, c := range []struct {
		e    api.Event
		want []byte
	}{
		{api.Event{Time: 1}, []byte{0, 8, 0, 0, 0, 0, 0, 0, 0, 1, 0, 83, 0, 10}},
		{api.Event{}, []byte{0, 8, 0, 0, 0, 0, 0, 0, 0, 0, 0, 82, 0, 9}},
		{api.Event{Ids: []int{0}}, []byte{0, 9, 0, 0, 0, 0, 0, 0, 0, 0, 0, 0, 101, 0, 10}},
		{api.Event{Time: 0x0102030405060708, Ids: []int{3, 63}}, []byte{0, 10, 1, 2, 3, 4, 5, 6, 7, 8, 3, 63, 1, 127, 0, 113}},
		{api.Event{Time: math.MaxUint64}, []byte{0, 8, 255, 255, 255, 255, 255, 255, 255, 255, 36, 46, 8, 1}},
	} {
		if got := Put(nil, c.e); !bytes.Equal(got, c.want) {
			t.Errorf("Put(nil, %v) = %v, want %v", c.e, got, c.want)
		}
		taken(t, c.want, 64, c.e, len(c.want))
	}
}

// P9.1: the record stands behind what was there, and is the same whatever that is.
func TestPutBehind(t *testing.T) {
	for _, e := range events() {
		alone := Put(nil, e)
		if len(alone) != 14+len(e.Ids) {
			t.Errorf("%d bytes of %v", len(alone), e)
		}
		for _, b := range [][]byte{{}, {0}, {255, 0}, []byte("abc"), alone, make([]byte, 1000)} {
			if got := Put(b, e); !bytes.Equal(got, slices.Concat(b, alone)) {
				t.Errorf("Put(%v, %v) = %v", b, e, got)
			}
		}
	}
}

// P9.1: an event with wrong ids has no record, and only b comes back.
func TestPutWrong(t *testing.T) {
	for _, id := range edges {
		want := 0
		if id >= 0 && id < 64 {
			want = 15
		}
		for _, b := range []string{"", "ab", "\x00\x08"} {
			got := Put([]byte(b), api.Event{Time: 5, Ids: []int{id}})
			if len(got) != len(b)+want || string(got[:len(b)]) != b {
				t.Error(id, got)
			}
		}
	}
	for _, ids := range [][]int{{1, 0}, {0, 0}, {63, 63}, {63, 0}, {0, 2, 1}, {0, 1, 1}, {5, 6, -1}, {0, 256}, {1, 64}, upTo(65), upTo(256), upTo(1 << 17)} {
		if got := Put([]byte("ab"), api.Event{Time: 5, Ids: ids}); string(got) != "ab" {
			t.Error(len(ids), got)
		}
		if got := Put(nil, api.Event{Time: 5, Ids: ids}); len(got) > 0 {
			t.Error(len(ids), got)
		}
	}
}

// P9.1: a wrong id is found at every place.
func TestPutPlaces(t *testing.T) {
	for i := range 64 {
		for _, step := range []int{-64, -1, 0, 1, 64, 256} {
			ids := upTo(64)
			ids[i] += step
			if got := Put([]byte{7}, api.Event{Ids: ids}); (len(got) > 1) != (step == 0) {
				t.Error(i, step, got)
			}
		}
	}
}

// P9.2: only the record at the beginning is read, whatever is behind it.
func TestGetBegins(t *testing.T) {
	for _, e := range events() {
		b := Put(nil, e)
		for _, more := range []string{"", "\x00", "\x00\x08", "zzzz", string(b)} {
			taken(t, append(slices.Clone(b), more...), 64, e, len(b))
		}
	}
}

// P9.2: props counts as 0 if it is less, and as 64 if it is greater.
func TestGetProps(t *testing.T) {
	none, all := Put(nil, api.Event{Time: 5}), Put(nil, api.Event{Time: 5, Ids: upTo(64)})
	for _, props := range edges {
		taken(t, none, props, api.Event{Time: 5}, 14)
		if props >= 64 {
			taken(t, all, props, api.Event{Time: 5, Ids: upTo(64)}, 78)
		} else {
			refused(t, all, props, api.ErrForm)
		}
		if props <= 0 {
			refused(t, raw(9, 5, 0), props, api.ErrForm)
		} else {
			taken(t, raw(9, 5, 0), props, api.Event{Time: 5, Ids: []int{0}}, 15)
		}
		if props > 0 {
			refused(t, raw(9, 5, 64), props, api.ErrOrder)
			refused(t, raw(9, 5, 255), props, api.ErrOrder)
		}
		refused(t, nil, props, api.ErrEnd)
		refused(t, []byte{}, props, api.ErrEnd)
	}
}

// P9.2: an id is less than props, and there are no more ids than props.
func TestGetIds(t *testing.T) {
	for props := range 66 {
		for id := range 256 {
			b := raw(9, 7, byte(id))
			switch {
			case props == 0:
				refused(t, b, props, api.ErrForm)
			case id < min(props, 64):
				taken(t, b, props, api.Event{Time: 7, Ids: []int{id}}, 15)
			default:
				refused(t, b, props, api.ErrOrder)
			}
		}
		for n := range 65 {
			b := Put(nil, api.Event{Time: 7, Ids: upTo(n)})
			if n <= props {
				taken(t, b, props, api.Event{Time: 7, Ids: upTo(n)}, 14+n)
			} else {
				refused(t, b, props, api.ErrForm)
			}
		}
	}
}

// P9.2: an id that is not greater than the one before is found at every place.
func TestGetPlaces(t *testing.T) {
	for i := 1; i < 64; i++ {
		for _, to := range []int{0, i - 1, 64, 255} {
			ids := []byte{}
			for id := range 64 {
				ids = append(ids, byte(id))
			}
			ids[i] = byte(to)
			refused(t, raw(72, 1, ids...), 64, api.ErrOrder)
		}
	}
	refused(t, raw(10, 1, 1, 0), 2, api.ErrOrder)
	refused(t, raw(10, 1, 1, 1), 2, api.ErrOrder)
	refused(t, raw(10, 1, 0, 2), 2, api.ErrOrder)
	taken(t, raw(10, 1, 0, 1), 2, api.Event{Time: 1, Ids: []int{0, 1}}, 16)
}

// P9.2: of several errors the one that the promise lists first.
func TestGetOrder(t *testing.T) {
	badSum := raw(10, 1, 5, 5)
	badSum[15]++
	for i, c := range []struct {
		b     []byte
		props int
		want  api.Errno
	}{
		{nil, 64, api.ErrEnd},
		{[]byte{0}, 64, api.ErrShort},
		{[]byte{1}, 64, api.ErrShort},
		{[]byte{255}, 64, api.ErrShort},
		{[]byte{0, 0}, 64, api.ErrForm},
		{[]byte{0, 7}, 64, api.ErrForm},
		{[]byte{0, 8}, 64, api.ErrShort},
		{[]byte{0, 8}, 0, api.ErrShort},
		{[]byte{0, 9}, 0, api.ErrForm},
		{[]byte{0, 9}, -1, api.ErrForm},
		{[]byte{0, 72}, 64, api.ErrShort},
		{[]byte{0, 72}, 63, api.ErrForm},
		{[]byte{0, 73}, 64, api.ErrForm},
		{[]byte{0, 73}, math.MaxInt, api.ErrForm},
		{[]byte{1, 8}, 64, api.ErrForm},
		{[]byte{128, 8}, 64, api.ErrForm},
		{[]byte{255, 255}, 64, api.ErrForm},
		{raw(7, 1), 64, api.ErrForm},
		{badSum, 1, api.ErrForm},
		{badSum, 2, api.ErrSum},
		{badSum, 64, api.ErrSum},
		{badSum[:15], 1, api.ErrForm},
		{badSum[:15], 2, api.ErrShort},
		{raw(10, 1, 5, 5), 2, api.ErrOrder},
		{raw(10, 1, 5, 5)[:15], 2, api.ErrShort},
		{raw(9, 1), 64, api.ErrShort},
		{raw(8, 1, 0), 64, api.ErrSum},
	} {
		if _, _, no := Get(c.b, c.props); no != c.want {
			t.Error(i, no, c.want)
		}
		refused(t, c.b, c.props, c.want)
	}
}

// P9.2: a sum that is written with its least significant byte first, or of other bytes than those from L on, is wrong.
func TestGetOtherSums(t *testing.T) {
	b := Put(nil, api.Event{Time: 77, Ids: []int{1, 4}})
	body, tail := b[:12], b[12:]
	for i, c := range [][]byte{
		{tail[3], tail[2], tail[1], tail[0]},
		withSum(body[2:])[10:],
		withSum(body[:10])[10:],
		withSum(nil),
		{0, 0, 0, 0},
	} {
		refused(t, slices.Concat(body, c), 64, api.ErrSum)
		if t.Failed() {
			t.Fatal(i)
		}
	}
	taken(t, slices.Concat(body, withSum(body)[12:]), 64, api.Event{Time: 77, Ids: []int{1, 4}}, 16)
}

// P9.3: Get of Put returns the event, and Put of what Get returns the bytes that it read.
func TestGetOfPut(t *testing.T) {
	for _, e := range events() {
		b := Put([]byte("before"), e)[6:]
		got, n, no := Get(append(slices.Clone(b), "behind"...), 64)
		if no != api.OK || n != len(b) || !alike(got, e) || !bytes.Equal(Put(nil, got), b) {
			t.Error(e, got, n, no)
		}
	}
}

// P9.3: records one behind the other are read one by one.
func TestRow(t *testing.T) {
	all := []byte{}
	for _, e := range events() {
		all = Put(all, e)
	}
	rest := all
	for _, e := range events() {
		got, n, no := Get(rest, 64)
		if no != api.OK || !alike(got, e) {
			t.Fatal(e, got, n, no)
		}
		rest = rest[n:]
	}
	refused(t, rest, 64, api.ErrEnd)
}

// P9.3: every proper prefix of a record is short.
func TestPrefixes(t *testing.T) {
	for _, e := range events() {
		b := Put(nil, e)
		refused(t, b[:0], 64, api.ErrEnd)
		for k := 1; k < len(b); k++ {
			refused(t, b[:k], 64, api.ErrShort)
			refused(t, slices.Clone(b[:k]), len(e.Ids), api.ErrShort)
		}
	}
}

// P9.3: any other value of any byte behind L makes the sum wrong.
func TestChanged(t *testing.T) {
	for _, e := range []api.Event{{}, {Time: 1}, {Time: math.MaxUint64, Ids: upTo(64)}, {Time: 0x0102030405060708, Ids: []int{3, 63}}} {
		b := Put(nil, e)
		for k := 2; k < len(b); k++ {
			was := b[k]
			for by := 1; by < 256; by++ {
				b[k] = was ^ byte(by)
				refused(t, b, 64, api.ErrSum)
			}
			b[k] = was
		}
	}
}

// R2: what is handed in stays as it is, also behind its end, and results are memory of their own.
func TestMemory(t *testing.T) {
	whole := bytes.Repeat([]byte{7}, 200)
	ids := []int{1, 4, 9}
	for _, l := range [][]int{ids, {4, 1}} {
		got := Put(whole[:20], api.Event{Time: 3, Ids: l})
		for i := range got[:cap(got)] {
			got[:cap(got)][i] = 99
		}
	}
	if !bytes.Equal(whole, bytes.Repeat([]byte{7}, 200)) || !slices.Equal(ids, []int{1, 4, 9}) {
		t.Error(whole, ids)
	}
	b := append(Put(nil, api.Event{Time: 3, Ids: ids}), "behind"...)
	was := slices.Clone(b)
	e, n, no := Get(b, 64)
	if !bytes.Equal(b, was) {
		t.Error(b)
	}
	clear(b)
	if no != api.OK || n != 17 || !alike(e, api.Event{Time: 3, Ids: []int{1, 4, 9}}) {
		t.Error(e, n, no)
	}
}

// R2: a result stays when what was handed in is changed.
func TestResultsStay(t *testing.T) {
	for _, ids := range [][]int{{2, 5}, {5, 2}} {
		b := []byte{1, 2, 3}
		e := api.Event{Time: 3, Ids: slices.Clone(ids)}
		got := Put(b, e)
		want := slices.Clone(got)
		clear(b)
		clear(e.Ids)
		if !bytes.Equal(got, want) || !bytes.Equal(got[:3], []byte{1, 2, 3}) {
			t.Error(ids, got)
		}
	}
}
