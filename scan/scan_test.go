package scan

import (
	"math"
	"slices"
	"strings"
	"testing"

	"watchglass/api"
	"watchglass/log"
	"watchglass/source"
)

// heads fails unless Head answers these names, and the index at behind them.
func heads(t *testing.T, b string, fault, at int, l ...string) {
	t.Helper()
	if got, n, no := Head(source.New([]byte(b), nil, fault)); !slices.Equal(got, l) || n != at || no != api.OK {
		t.Errorf("%q, fault %d: Head = %q, %d, %v, want %q, %d", b, fault, got, n, no, l, at)
	}
}

// noHead fails unless Head answers that error, and nothing beside it.
func noHead(t *testing.T, b string, fault int, want api.Errno) {
	t.Helper()
	if l, n, no := Head(source.New([]byte(b), nil, fault)); len(l) > 0 || n != 0 || no != want {
		t.Errorf("%q, fault %d: Head = %q, %d, %v, want %v", b, fault, l, n, no, want)
	}
}

// noRecord fails unless Record answers that error, and nothing beside it.
func noRecord(t *testing.T, s *source.Source, at, props int, want api.Errno) {
	t.Helper()
	if e, n, no := Record(s, at, props); !alike(e, api.Event{}) || n != 0 || no != want {
		t.Errorf("Record(%d, %d) = %v, %d, %v, want %v", at, props, e, n, no, want)
	}
}

// summed is a text followed by its sum.
func summed(s string) string { return string(withSum([]byte(s))) }

// P12.1: known headers, without names, with names of the least and the greatest length, and with MaxProps of them; what follows them does not matter.
func TestHeadKnown(t *testing.T) {
	heads(t, "WGL\x01\x00\x03\xba\x00\xec", -1, 9)
	heads(t, summed("WGL\x01\x00"), 9, 9)
	heads(t, summed("WGL\x01\x00")+"z", 9, 9)
	heads(t, summed("WGL\x01\x02\x01p\x10abcdefghijklmno_")+"zzz", -1, 28, "p", "abcdefghijklmno_")
	many := []string{}
	for i := range 64 {
		many = append(many, "p"+strings.Repeat("1", i%4)+string(rune('a'+i/4)))
	}
	b := string(rawNames(64, many...))
	heads(t, summed(b), -1, len(b)+4, many...)
	heads(t, summed(b)+"more", len(b)+4, len(b)+4, many...)
	noHead(t, summed("WGL\x01\x41"+b[5:]+"\x01p"), -1, api.ErrHead)
}

// P12.1: of the first part that is not in order, a byte that can't be read goes before those that are missing, and both before what is wrong.
func TestHeadParts(t *testing.T) {
	for _, x := range []struct {
		b     string
		fault int
		want  api.Errno
	}{
		// The first five bytes.
		{"", -1, api.ErrHead}, {"", 0, api.ErrHead},
		{"WGL\x01", -1, api.ErrHead}, {"WGL\x01", 4, api.ErrHead}, {"WGL\x01", 3, api.ErrFault}, {"W", 0, api.ErrFault},
		{"XXXXX", 4, api.ErrFault}, {"XXXXX", -1, api.ErrHead}, {"XXXXXz", 5, api.ErrHead},
		{"WGL\x02\x01z", 5, api.ErrHead}, {"WGL\x01\x41z", 5, api.ErrHead}, {"WGL\x01\xffz", 5, api.ErrHead}, {"WGL\x01\x40z", 5, api.ErrFault},
		// A length.
		{"WGL\x01\x01", -1, api.ErrHead}, {"WGL\x01\x01\x01", 5, api.ErrFault},
		{"WGL\x01\x01\x00z", 6, api.ErrHead}, {"WGL\x01\x01\x11z", 6, api.ErrHead}, {"WGL\x01\x01\xffz", 6, api.ErrHead},
		// A name.
		{"WGL\x01\x01\x01", -1, api.ErrHead}, {"WGL\x01\x01\x01p", 6, api.ErrFault}, {"WGL\x01\x01\x03PQ", 7, api.ErrFault}, {"WGL\x01\x01\x03PQ", -1, api.ErrHead},
		{"WGL\x01\x01\x02PQz", 8, api.ErrHead}, {"WGL\x01\x01\x041234z", 10, api.ErrHead}, {"WGL\x01\x01\x04truez", 10, api.ErrHead}, {"WGL\x01\x01\x04backz", 10, api.ErrHead},
		{"WGL\x01\x03\x01p\x01q\x01pz", 11, api.ErrHead}, {"WGL\x01\x03\x01p\x01q\x01pz", 10, api.ErrFault}, {"WGL\x01\x03\x01p\x01p\x00", 9, api.ErrHead}, {"WGL\x01\x02\x01p", -1, api.ErrHead},
		// The sum.
		{"WGL\x01\x00", -1, api.ErrHead}, {"WGL\x01\x00\x03\xba\x00", -1, api.ErrHead}, {"WGL\x01\x00\x03\xba\x00", 7, api.ErrFault},
		{"WGL\x01\x00\x03\xba\x00\xec", 8, api.ErrFault}, {"WGL\x01\x00\x03\xba\x00\xed", 8, api.ErrFault}, {"WGL\x01\x00\x03\xba\x00\xed", -1, api.ErrHead}, {"WGL\x01\x00\xec\x03\xba\x00", -1, api.ErrHead},
	} {
		noHead(t, x.b, x.fault, x.want)
	}
}

// P12.2: the chapter's example, where a fault follows the header at once.
func TestKnownFault(t *testing.T) {
	b := log.Encode(api.Trace{Names: []string{"p"}, Events: []api.Event{{Time: 7, Ids: []int{0}}}})
	s := source.New(b, nil, 11)
	l, at, no := Head(s)
	if !slices.Equal(l, []string{"p"}) || at != 11 || no != api.OK {
		t.Error(l, at, no)
	}
	noRecord(t, s, at, 1, api.ErrFault)
}

// P12.2: known records, the shortest and the longest one, wherever they stand, also before a fault and at the end.
func TestRecordKnown(t *testing.T) {
	all := make([]int, 64)
	for i := range all {
		all[i] = i
	}
	short, long := raw(1<<64-1), raw(1, all...)
	b := slices.Concat([]byte("zz"), short, long, short)
	for _, script := range [][]int{nil, ones(200), {-1, 0, 5, 1, 77, 1}} {
		s := source.New(b, script, len(b)-1)
		if e, n, no := Record(s, 2, 0); !alike(e, api.Event{Time: 1<<64 - 1}) || n != 16 || no != api.OK {
			t.Error(e, n, no)
		}
		if e, n, no := Record(s, 16, 64); !alike(e, api.Event{Time: 1, Ids: all}) || n != 16+78 || no != api.OK {
			t.Error(e, n, no)
		}
		if e, n, no := Record(s, 16, math.MaxInt); !alike(e, api.Event{Time: 1, Ids: all}) || n != 16+78 || no != api.OK {
			t.Error(e, n, no)
		}
		noRecord(t, s, 94, 64, api.ErrFault)
		noRecord(t, s, 16, 63, api.ErrForm)
		noRecord(t, s, 16, math.MinInt, api.ErrForm)
		if e, n, no := Record(source.New(b, script, len(b)), 94, 64); !alike(e, api.Event{Time: 1<<64 - 1}) || n != len(b) || no != api.OK {
			t.Error(e, n, no)
		}
	}
}

// P12.2: an index that is negative goes before all, and one behind the last byte before a fault.
func TestRecordIndex(t *testing.T) {
	b := raw(3, 0)
	for _, fault := range []int{-1, 0, 5, len(b)} {
		s := source.New(b, nil, fault)
		for _, at := range []int{math.MinInt, -1 << 32, -1} {
			noRecord(t, s, at, 1, api.ErrArg)
		}
		for _, at := range []int{len(b), len(b) + 1, 1 << 32, math.MaxInt - 1, math.MaxInt} {
			noRecord(t, s, at, 1, api.ErrEnd)
		}
		noRecord(t, source.New(nil, nil, fault), -1, 1, api.ErrArg)
		noRecord(t, source.New(nil, nil, fault), 0, 1, api.ErrEnd)
	}
}

// P12.2: what record.Get finds wrong in the bytes that can be read goes before a fault; where bytes are missing to it, the fault does.
func TestRecordFault(t *testing.T) {
	badSum := raw(3, 0, 1)
	badSum[15]++
	for _, x := range []struct {
		b         []byte
		fault     int
		props     int
		want      api.Errno
		withFault api.Errno
	}{
		{raw(3), 0, 0, api.OK, api.ErrFault}, {raw(3), 1, 0, api.OK, api.ErrFault}, {raw(3), 2, 0, api.OK, api.ErrFault}, {raw(3), 13, 0, api.OK, api.ErrFault},
		{raw(3, 0), 1, 0, api.ErrForm, api.ErrFault}, {raw(3, 0), 2, 0, api.ErrForm, api.ErrForm}, {[]byte{0, 7, 1}, 2, 9, api.ErrForm, api.ErrForm},
		{badSum, 15, 2, api.ErrSum, api.ErrFault}, {append(badSum, 0), 16, 2, api.ErrSum, api.ErrSum},
		{raw(3, 1, 0), 15, 2, api.ErrOrder, api.ErrFault}, {append(raw(3, 1, 0), 0), 16, 2, api.ErrOrder, api.ErrOrder}, {append(raw(3, 1), 0), 15, 1, api.ErrOrder, api.ErrOrder},
		{raw(3)[:13], 12, 0, api.ErrShort, api.ErrFault}, {[]byte{0}, 0, 0, api.ErrShort, api.ErrFault},
	} {
		for _, script := range [][]int{nil, ones(20)} {
			if _, _, no := Record(source.New(x.b, script, -1), 0, x.props); no != x.want {
				t.Error(x.b, no, x.want)
			}
			noRecord(t, source.New(x.b, script, x.fault), 0, x.props, x.withFault)
		}
	}
}

// P12.1, P12.2: a call uses up the script, and what it answers does not hang on that.
func TestAgain(t *testing.T) {
	b := slices.Concat(withSum(rawNames(1, "p")), raw(3, 0), raw(3))
	s := source.New(b, []int{3, 1, 1, 4, 1, 5, 9, 2, 6, 5, 3, 5, 8, 9, 7, 9, 3, 2, 3, 8}, -1)
	for range 9 {
		if l, at, no := Head(s); !slices.Equal(l, []string{"p"}) || at != 11 || no != api.OK {
			t.Error(l, at, no)
		}
		if e, at, no := Record(s, 26, 1); !alike(e, api.Event{Time: 3}) || at != 40 || no != api.OK {
			t.Error(e, at, no)
		}
		if e, at, no := Record(s, 11, 1); !alike(e, api.Event{Time: 3, Ids: []int{0}}) || at != 26 || no != api.OK {
			t.Error(e, at, no)
		}
		noRecord(t, s, 40, 1, api.ErrEnd)
	}
}

// P12.1, P12.2: what a call answers is new memory.
func TestOwnMemory(t *testing.T) {
	b := slices.Concat(withSum(rawNames(2, "p", "q")), raw(3, 0, 1))
	s := source.New(b, nil, -1)
	for range 2 {
		l, at, no := Head(s)
		if !slices.Equal(l, []string{"p", "q"}) || no != api.OK {
			t.Error(l, no)
		}
		e, _, no := Record(s, at, 2)
		if !slices.Equal(e.Ids, []int{0, 1}) || no != api.OK {
			t.Error(e, no)
		}
		l[0], e.Ids[0] = "x", 1
		_, _ = append(l[:1], "y"), append(e.Ids[:1], 7)
	}
}

// P12.1, P12.2: no source, and one that New did not make.
func TestNoSource(t *testing.T) {
	if l, at, no := Head(nil); len(l) > 0 || at != 0 || no != api.ErrArg {
		t.Error(l, at, no)
	}
	for _, at := range []int{math.MinInt, -1, 0, 1, math.MaxInt} {
		noRecord(t, nil, at, 1, api.ErrArg)
	}
	if l, at, no := Head(&source.Source{}); len(l) > 0 || at != 0 || no != api.ErrHead {
		t.Error(l, at, no)
	}
	noRecord(t, &source.Source{}, -1, 1, api.ErrArg)
	noRecord(t, &source.Source{}, 0, 1, api.ErrEnd)
}

// P12.3: a log of some length, by scripts that give few bytes or many, or end in the middle.
func TestLikeDecode(t *testing.T) {
	x := api.Trace{Names: []string{"p", "q", "r"}}
	for i := range 300 {
		x.Events = append(x.Events, api.Event{Time: uint64(i / 3), Ids: rows([]int{0, 1, 2}, 1)[i%4]})
	}
	b := log.Encode(x)
	for _, script := range [][]int{nil, ones(len(b) * 4), ones(1000), slices.Repeat([]int{2, 13, 0, 79, -5}, 500)} {
		if no := decodesLikeLog(t, b, script); no != api.OK {
			t.Error(no)
		}
		if no := decodesLikeLog(t, append(b[:len(b):len(b)], raw(98)...), script); no != api.ErrTime {
			t.Error(no)
		}
		if no := decodesLikeLog(t, b[:len(b)-1], script); no != api.ErrShort {
			t.Error(no)
		}
		if no := decodesLikeLog(t, b[1:], script); no != api.ErrHead {
			t.Error(no)
		}
	}
}
