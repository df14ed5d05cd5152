package log

import (
	"bytes"
	"math"
	"slices"
	"strconv"
	"strings"
	"testing"

	"watchglass/api"
)

// at is an event.
func at(time uint64, ids ...int) api.Event { return api.Event{Time: time, Ids: ids} }

// over is a trace with the names in that text.
func over(names string, events ...api.Event) api.Trace {
	return api.Trace{Names: strings.Fields(names), Events: events}
}

// many are so many names.
func many(n int) []string {
	l := []string{}
	for i := range n {
		l = append(l, "p"+strconv.Itoa(i))
	}
	return l
}

// upTo are the ids below n.
func upTo(n int) []int {
	l := []int{}
	for i := range n {
		l = append(l, i)
	}
	return l
}

// samples are traces that are valid.
func samples() []api.Trace {
	return []api.Trace{
		{},
		{Names: []string{}, Events: []api.Event{}},
		over("", at(0), at(0), at(math.MaxUint64)),
		over("p"),
		over("q p z_9", at(1), at(1, 0), at(7, 1, 2), at(7, 0, 1, 2)),
		over("abcdefghijklmnop a", at(0x0102030405060708, 1), at(math.MaxUint64, 0), at(math.MaxUint64)),
		{Names: many(63), Events: []api.Event{at(1<<63, upTo(63)...)}},
		{Names: many(64), Events: []api.Event{at(5, 63), at(5, upTo(64)...), at(6)}},
	}
}

// noHead fails unless there is no header, and nothing is told beside this.
func noHead(t *testing.T, b []byte) {
	t.Helper()
	if l, n, no := Head(b); no != api.ErrHead || n != 0 || len(l) > 0 {
		t.Errorf("Head(%q) = %q, %d, %v", b, l, n, no)
	}
	if x, n, no := Decode(b); no != api.ErrHead || n != 0 || !alike(x, api.Trace{}) {
		t.Errorf("Decode(%q) = %v, %d, %v", b, x, n, no)
	}
}

// decoded fails unless Decode answers this trace, all its events and this error.
func decoded(t *testing.T, b []byte, want api.Trace, wantNo api.Errno) {
	t.Helper()
	if x, n, no := Decode(b); no != wantNo || n != len(want.Events) || !alike(x, want) {
		t.Errorf("Decode(%q) = %v, %d, %v, want %v, %v", b, x, n, no, want, wantNo)
	}
}

// P10.1, P10.2, P10.3: logs that are known byte by byte.
func TestKnown(t *testing.T) {
	for _, c := range []struct {
		x    api.Trace
		head []byte
		rest []byte
	}{
		{api.Trace{}, []byte{'W', 'G', 'L', 1, 0, 3, 186, 0, 236}, nil},
		{over("p"), []byte{'W', 'G', 'L', 1, 1, 1, 'p', 6, 7, 1, 94}, nil},
		{over("", at(1)), []byte{'W', 'G', 'L', 1, 0, 3, 186, 0, 236}, []byte{0, 8, 0, 0, 0, 0, 0, 0, 0, 1, 0, 83, 0, 10}},
		{over("q p_2", at(0), at(258, 0, 1)), []byte{'W', 'G', 'L', 1, 2, 1, 'q', 3, 'p', '_', '2', 13, 215, 2, 100},
			[]byte{0, 8, 0, 0, 0, 0, 0, 0, 0, 0, 0, 82, 0, 9, 0, 10, 0, 0, 0, 0, 0, 0, 1, 2, 0, 1, 0, 133, 0, 15}},
	} {
		b := slices.Concat(c.head, c.rest)
		if got := Encode(c.x); !bytes.Equal(got, b) {
			t.Errorf("Encode(%v) = %v, want %v", c.x, got, b)
		}
		if l, n, no := Head(b); no != api.OK || n != len(c.head) || !slices.Equal(l, c.x.Names) {
			t.Error(l, n, no)
		}
		decoded(t, b, c.x, api.OK)
	}
}

// P10.1: a trace that is not valid has no log.
func TestEncodeWrong(t *testing.T) {
	for i, x := range []api.Trace{
		over("p p"),
		over("p true"),
		over("P"),
		over("p-q"),
		over("abcdefghijklmnopq"),
		{Names: []string{""}},
		{Names: []string{"p\n"}},
		{Names: many(65)},
		{Names: many(256)},
		{Names: many(257)},
		{Names: []string{strings.Repeat("p", 257)}},
		over("p p", at(1, 0)),
		over("", at(1, 0)),
		over("p", at(1, 1)),
		over("p", at(1, -1)),
		over("p", at(1, 256)),
		over("p", at(1, 0), at(1, 0, 0)),
		over("p q", at(1, 0), at(1, 1, 0)),
		over("p q", at(2, 0), at(1, 0)),
		over("p q", at(1), at(math.MaxUint64), at(0)),
	} {
		if b := Encode(x); len(b) > 0 {
			t.Error(i, b)
		}
	}
}

// P10.1, P10.2: 64 names of 16 bytes are the most; the names keep their order.
func TestNamesLimits(t *testing.T) {
	for n := range 257 {
		l := many(n)
		b := rawHead(n, l...)
		if n > 64 {
			noHead(t, b)
			continue
		}
		if got, size, no := Head(b); no != api.OK || size != len(b) || !slices.Equal(got, l) {
			t.Error(n, got, size, no)
		}
		if !bytes.Equal(Encode(api.Trace{Names: l}), b) {
			t.Error(n)
		}
	}
	for n := range 256 {
		s := strings.Repeat("p", n)
		b := rawHead(1, s)
		if n < 1 || n > 16 {
			noHead(t, b)
			continue
		}
		if got, size, no := Head(b); no != api.OK || size != n+10 || !slices.Equal(got, []string{s}) {
			t.Error(n, got, size, no)
		}
	}
}

// P10.2: the number of names is as great as it says, whatever else is there.
func TestHeadCount(t *testing.T) {
	for n := range 70 {
		for count := range 256 {
			if count != n || n > 64 {
				noHead(t, rawHead(count, many(n)...))
			}
		}
	}
}

// P10.2: names that are no Names of chapter 8, at every place.
func TestHeadNames(t *testing.T) {
	for _, s := range append([]string{"", "P", "pQ", "1", "_p", "p q", " ", "p\n", "p-", "é", "\x00", "\xff", "abcdefghijklmnopq"}, reserved...) {
		noHead(t, rawHead(1, s))
		noHead(t, rawHead(2, "p", s))
		noHead(t, rawHead(2, s, "p"))
	}
	for i := range 64 {
		for k := range 64 {
			l := many(64)
			l[i] = l[k]
			if _, _, no := Head(rawHead(64, l...)); (no == api.OK) != (i == k) {
				t.Error(i, k, no)
			}
		}
	}
}

// P10.2: the first four bytes are W, G, L and 1, each of them.
func TestHeadMark(t *testing.T) {
	for _, l := range [][]string{nil, {"p"}} {
		right := rawHead(len(l), l...)
		body := right[:len(right)-4]
		for k := range 4 {
			for by := 1; by < 256; by++ {
				b := slices.Clone(body)
				b[k] ^= byte(by)
				noHead(t, withSum(b))
			}
		}
	}
	for _, s := range []string{"", "W", "WG", "WGL", "WGL\x01", "GWL\x01\x00", "WGL\x00\x01", "LGW\x01\x00", "wgl\x01\x00", "\x00WGL\x01\x00", "WGL1\x00", "WGL\x00", "\x01LGW\x00"} {
		noHead(t, []byte(s))
		noHead(t, withSum([]byte(s)))
	}
	noHead(t, nil)
	noHead(t, []byte{})
	noHead(t, make([]byte, 100))
}

// P10.2: with any other value of any byte of these headers there is none.
func TestHeadChanged(t *testing.T) {
	for _, x := range samples() {
		b := rawHead(len(x.Names), x.Names...)
		for k := range b {
			was := b[k]
			for by := 1; by < 256; by++ {
				b[k] = was ^ byte(by)
				noHead(t, b)
			}
			b[k] = was
		}
	}
}

// P10.2: a sum that is written with its least significant byte first, or of other bytes than those from W on, is wrong.
func TestHeadOtherSums(t *testing.T) {
	b := rawHead(2, "p", "qq")
	n := len(b) - 4
	body, tail := b[:n], b[n:]
	for _, s := range [][]byte{
		{tail[3], tail[2], tail[1], tail[0]},
		withSum(body[4:])[n-4:],
		withSum(body[5:])[n-5:],
		withSum(body[:5])[5:],
		withSum(nil),
		{0, 0, 0, 0},
	} {
		noHead(t, slices.Concat(body, s))
	}
	if _, size, no := Head(slices.Concat(body, tail)); no != api.OK || size != len(b) {
		t.Error(size, no)
	}
}

// P10.2: only the header at the beginning is read, whatever is behind it; where bytes of it are missing there is none.
func TestHeadBegins(t *testing.T) {
	for _, x := range samples() {
		b := rawHead(len(x.Names), x.Names...)
		for _, more := range []string{"", "\x00", "\x00\x08", "\x01p", "WGL\x01", "zzzz", string(b), string(Encode(x))} {
			if l, n, no := Head(append(slices.Clone(b), more...)); no != api.OK || n != len(b) || !slices.Equal(l, x.Names) {
				t.Errorf("%q: %q, %d, %v", more, l, n, no)
			}
		}
		for k := range b {
			noHead(t, b[:k])
			noHead(t, slices.Clone(b[:k]))
		}
	}
}

// P10.3: where Head finds no header, Decode tells nothing else, whatever is behind.
func TestDecodeNoHead(t *testing.T) {
	rest := slices.Concat(raw(2), raw(1))
	for _, more := range [][]byte{nil, rest, {0}, {255, 255}, rawHead(0)} {
		noHead(t, append(rawHead(1, "P"), more...))
		noHead(t, append(rawHead(2, "p", "p"), more...))
		noHead(t, append([]byte{'W', 'G', 'L', 1, 0, 3, 186, 0, 237}, more...))
		noHead(t, slices.Concat([]byte{7}, rawHead(1, "p"), more))
		noHead(t, append(raw(1), more...))
	}
}

// P10.3: each error of a record is told, and beside it the names and the events before.
func TestDecodeErrors(t *testing.T) {
	x := over("p q", at(3, 0), at(4, 1), at(9, 0, 1))
	badSum := raw(9, 0)
	badSum[12]++
	badTime := raw(1, 0)
	badTime[9]++
	for _, c := range []struct {
		b    []byte
		want api.Errno
	}{
		{[]byte{0}, api.ErrShort},
		{[]byte{99}, api.ErrShort},
		{[]byte{0, 8}, api.ErrShort},
		{[]byte{0, 10}, api.ErrShort},
		{raw(1, 1, 0)[:15], api.ErrShort},
		{[]byte{0, 7}, api.ErrForm},
		{[]byte{0, 11}, api.ErrForm},
		{[]byte{1, 8}, api.ErrForm},
		{raw(9, 0, 1, 2), api.ErrForm},
		{make([]byte, 50), api.ErrForm},
		{rawHead(2, "p", "q"), api.ErrForm},
		{badSum, api.ErrSum},
		{badTime, api.ErrSum},
		{raw(9, 2), api.ErrOrder},
		{raw(9, 255), api.ErrOrder},
		{raw(9, 0, 0), api.ErrOrder},
		{raw(9, 1, 0), api.ErrOrder},
		{raw(8, 2), api.ErrOrder},
		{raw(8), api.ErrTime},
		{raw(8, 0, 1), api.ErrTime},
		{raw(0), api.ErrTime},
		{raw(3, 0), api.ErrTime},
	} {
		decoded(t, append(Encode(x), c.b...), x, c.want)
		decoded(t, slices.Concat(Encode(x), c.b, raw(9)), x, errWith(c.b, raw(9), c.want))
		if c.want != api.ErrTime {
			decoded(t, append(rawHead(2, "p", "q"), c.b...), over("p q"), c.want)
		}
	}
}

// errWith is the error where more bytes follow: what was short is short no more.
func errWith(b, more []byte, no api.Errno) api.Errno {
	if no == api.ErrShort {
		_, _, no = get(slices.Concat(b, more), 2)
	}
	return no
}

// P10.3: the first wrong record decides, and what is behind it is not read.
func TestDecodeFirst(t *testing.T) {
	badSum := raw(9)
	badSum[13]++
	wrong := []struct {
		b  []byte
		no api.Errno
	}{
		{badSum, api.ErrSum}, {raw(9, 1), api.ErrOrder}, {raw(2), api.ErrTime}, {raw(9, 0, 1), api.ErrForm},
	}
	for _, events := range [][]api.Event{{at(5, 0)}, {at(5), at(5, 0), at(6)}} {
		x := over("p", events...)
		for _, a := range wrong {
			for _, b := range wrong {
				decoded(t, slices.Concat(Encode(x), a.b, b.b), x, a.no)
				decoded(t, slices.Concat(Encode(x), a.b, raw(100), b.b), x, a.no)
				decoded(t, slices.Concat(Encode(x), raw(7), a.b, b.b), over("p", append(events[:len(events):len(events)], at(7))...), a.no)
			}
			decoded(t, slices.Concat(Encode(x), a.b, []byte{0}), x, a.no)
		}
	}
}

// P10.3: a time may be that of the event before, and the first one any; times are compared as numbers of 64 bits.
func TestDecodeTimes(t *testing.T) {
	times := []uint64{0, 1, 2, 255, 256, 1<<32 - 1, 1 << 32, 1<<63 - 1, 1 << 63, 1<<63 + 1, math.MaxUint64 - 1, math.MaxUint64}
	for _, a := range times {
		for _, b := range times {
			log := slices.Concat(rawHead(1, "p"), raw(a, 0), raw(b))
			if b < a {
				decoded(t, log, over("p", at(a, 0)), api.ErrTime)
			} else {
				decoded(t, log, over("p", at(a, 0), at(b)), api.OK)
			}
			for _, c := range times {
				n := 3
				if b < a {
					n = 1
				} else if c < b {
					n = 2
				}
				if x, got, _ := Decode(slices.Concat(rawHead(0), raw(a), raw(b), raw(c))); got != n || len(x.Events) != n {
					t.Error(a, b, c, got)
				}
			}
		}
	}
}

// P10.3: an id is less than the number of the header's names.
func TestDecodeIds(t *testing.T) {
	for n := range 65 {
		h := rawHead(n, many(n)...)
		x := api.Trace{Names: many(n), Events: []api.Event{at(1, upTo(n)...)}}
		decoded(t, append(h[:len(h):len(h)], raw(1, upTo(n)...)...), x, api.OK)
		decoded(t, append(h[:len(h):len(h)], raw(1, upTo(n+1)...)...), api.Trace{Names: many(n)}, api.ErrForm)
		for id := range 66 {
			b := append(h[:len(h):len(h)], raw(1, id)...)
			switch {
			case n == 0:
				decoded(t, b, api.Trace{}, api.ErrForm)
			case id < n:
				decoded(t, b, api.Trace{Names: many(n), Events: []api.Event{at(1, id)}}, api.OK)
			default:
				decoded(t, b, api.Trace{Names: many(n)}, api.ErrOrder)
			}
		}
	}
}

// P10.4: Decode of Encode returns the trace, and Encode of this the bytes.
func TestDecodeOfEncode(t *testing.T) {
	for _, x := range samples() {
		b := Encode(x)
		decoded(t, b, x, api.OK)
		got, _, _ := Decode(b)
		if !bytes.Equal(Encode(got), b) {
			t.Error(x, got)
		}
	}
}

// P10.4: the events of a truncated log are its first ones.
func TestTruncated(t *testing.T) {
	for _, x := range samples() {
		b := Encode(x)
		ends := []int{len(rawHead(len(x.Names), x.Names...))}
		for _, e := range x.Events {
			ends = append(ends, ends[len(ends)-1]+14+len(e.Ids))
		}
		for k := range b {
			if k < ends[0] {
				noHead(t, b[:k])
				continue
			}
			n, whole := slices.BinarySearch(ends, k)
			no := api.OK
			if !whole {
				n, no = n-1, api.ErrShort
			}
			decoded(t, b[:k], api.Trace{Names: x.Names, Events: x.Events[:n]}, no)
		}
	}
}

// P10.4: if a byte of a record's L is changed, or any behind it, the log is right up to this record, and no further.
func TestRecordsChanged(t *testing.T) {
	x := over("p q", at(1), at(1, 0), at(7, 0, 1))
	b := Encode(x)
	start := len(rawHead(2, "p", "q"))
	for k := start; k < len(b); k++ {
		n := 0
		for i, e := start, 0; e < len(x.Events) && i+14+len(x.Events[e].Ids) <= k; e++ {
			i += 14 + len(x.Events[e].Ids)
			n++
		}
		was := b[k]
		for by := 1; by < 256; by++ {
			b[k] = was ^ byte(by)
			got, size, no := Decode(b)
			if no != api.ErrSum && no != api.ErrForm && no != api.ErrShort || size != n || !alike(got, api.Trace{Names: x.Names, Events: x.Events[:n]}) {
				t.Error(k, by, got, size, no)
			}
		}
		b[k] = was
	}
}

// P10.1, P10.3: a long log is written and read event by event.
func TestLong(t *testing.T) {
	x := api.Trace{Names: many(64)}
	for i := range 300000 {
		x.Events = append(x.Events, at(uint64(i/3), upTo(64)[i%64:i%64+i%2]...))
	}
	b := Encode(x)
	if len(b) != len(rawHead(64, many(64)...))+300000*14+150000 {
		t.Error(len(b))
	}
	if got, n, no := Decode(b); no != api.OK || n != 300000 || !alike(got, x) {
		t.Error(n, no)
	}
	if got, n, no := Decode(append(b, raw(1)...)); no != api.ErrTime || n != 300000 || !alike(got, x) {
		t.Error(n, no)
	}
}

// R2: what is handed in stays as it is, also behind its end, and results share nothing with it.
func TestArgumentsStay(t *testing.T) {
	x := over("p q r", at(1, 0, 1), at(2), at(2, 2))
	want := over("p q r", at(1, 0, 1), at(2), at(2, 2))
	got := Encode(x)
	for i := range got[:cap(got)] {
		got[:cap(got)][i] = 99
	}
	if !alike(x, want) {
		t.Error(x)
	}
	for _, more := range [][]byte{nil, raw(1), {0}} {
		whole := append(append(encode(want), more...), "behind"...)
		was := slices.Clone(whole)
		b := whole[:len(whole)-len("behind")]
		l, _, _ := Head(b)
		got, n, _ := Decode(b)
		if !bytes.Equal(whole, was) {
			t.Error(whole)
		}
		clear(whole)
		if n != 3 || !alike(got, want) || !slices.Equal(l, want.Names) {
			t.Error(l, got, n)
		}
	}
}

// R2: no two lists of a result share memory, also behind their ends, and a result stays when what was handed in is changed.
func TestResultsStay(t *testing.T) {
	want := over("p q r", at(1, 0, 1), at(2), at(2, 2), at(2, 0, 1, 2))
	b := encode(want)
	for i := range want.Events {
		got, _, _ := Decode(b)
		for k := range got.Events {
			if k == i {
				continue
			}
			ids := got.Events[k].Ids
			for j := range ids[:cap(ids)] {
				ids[:cap(ids)][j] = 99
			}
		}
		if !slices.Equal(got.Events[i].Ids, want.Events[i].Ids) {
			t.Error(i, got)
		}
	}
	x := over("p q", at(1, 0), at(2, 0, 1))
	log := Encode(x)
	was := slices.Clone(log)
	x.Names[0], x.Events[0].Time, x.Events[1].Ids[0] = "z", 9, 1
	if !bytes.Equal(log, was) {
		t.Error(log)
	}
}
