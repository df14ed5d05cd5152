package lex

import (
	"math/rand"
	"regexp"
	"slices"
	"strconv"
	"strings"
	"testing"
	"unsafe"

	"watchglass/api"
)

func word(s string, at int) api.Tok { return api.Tok{Kind: api.TWord, Text: s, At: at} }

func num(n, at int) api.Tok { return api.Tok{Kind: api.TNum, Num: n, At: at} }

func sign(s string, at int) api.Tok { return api.Tok{Kind: api.TSign, Text: s, At: at} }

func end(at int) api.Tok { return api.Tok{Kind: api.TEnd, At: at} }

// right fails unless Lex answers just these tokens.
func right(t *testing.T, s string, want ...api.Tok) {
	t.Helper()
	if got, at, e := Lex(s); e != api.OK || at != 0 || !slices.Equal(got, want) {
		t.Errorf("Lex(%q) = %v, %d, %v, want %v", s, got, at, e, want)
	}
}

// wrong fails unless Lex answers this error, at this index, and nothing else.
func wrong(t *testing.T, s string, at int, e api.Errno) {
	t.Helper()
	if got, a, err := Lex(s); len(got) > 0 || a != at || err != e {
		t.Errorf("Lex(%q) = %v, %d, %v, want error %d at %d", s, got, a, err, int(e), at)
	}
}

// shapes are the tokens as regular expressions, valid or not.
var shapes = []struct {
	kind int
	is   *regexp.Regexp
}{
	{api.TWord, regexp.MustCompile(`^[a-z][a-z0-9_]*`)},
	{api.TNum, regexp.MustCompile(`^[0-9]+`)},
	{api.TSign, regexp.MustCompile(`^(->|[()\[\]{},*.?+;!&|])`)},
	{api.TEnd, regexp.MustCompile(`^[ \n]+`)}, // here: blanks
}

var validNumber = regexp.MustCompile(`^(0|[1-9][0-9]{0,3})$`)

// model is Lex by the promise's words alone.
func model(s string) ([]api.Tok, int, api.Errno) {
	if len(s) > 2000 {
		return nil, 0, api.ErrMany
	}
	l, at := []api.Tok{}, 0
next:
	for at < len(s) {
		for _, x := range shapes {
			text := x.is.FindString(s[at:])
			if text == "" || x.kind == api.TWord && len(text) > 16 || x.kind == api.TNum && !validNumber.MatchString(text) {
				continue
			}
			tok := api.Tok{Kind: x.kind, Text: text, At: at}
			if x.kind == api.TNum {
				tok.Text = ""
				tok.Num, _ = strconv.Atoi(text)
			}
			if x.kind != api.TEnd {
				l = append(l, tok)
			}
			at += len(text)
			continue next
		}
		return nil, at, api.ErrForm
	}
	return append(l, api.Tok{Kind: api.TEnd, At: len(s)}), 0, api.OK
}

// asModel fails unless Lex answers as the model does.
func asModel(t *testing.T, s string) api.Errno {
	t.Helper()
	want, wantAt, wantErr := model(s)
	got, at, e := Lex(s)
	if !slices.Equal(got, want) || at != wantAt || e != wantErr {
		t.Errorf("Lex(%q) = %v, %d, %v, want %v, %d, %v", s, got, at, e, want, wantAt, wantErr)
	}
	return e
}

// P4.1: the chapter's examples, and a formula with all that there is.
func TestTokens(t *testing.T) {
	right(t, "a->b", word("a", 0), sign("->", 1), word("b", 3), end(4))
	wrong(t, "a - b", 2, api.ErrForm)
	right(t, "", end(0))
	right(t, " ", end(1))
	right(t, "\n \n", end(3))
	right(t, "p", word("p", 0), end(1))
	right(t, "fore[0,*]({!p_1?;.}*|q)\n",
		word("fore", 0), sign("[", 4), num(0, 5), sign(",", 6), sign("*", 7), sign("]", 8), sign("(", 9), sign("{", 10), sign("!", 11),
		word("p_1", 12), sign("?", 15), sign(";", 16), sign(".", 17), sign("}", 18), sign("*", 19), sign("|", 20), word("q", 21), sign(")", 22), end(24))
}

// P4.1: every single byte, alone, behind a word and behind a blank.
func TestEveryByte(t *testing.T) {
	for b := range 256 {
		s := string([]byte{byte(b)})
		switch {
		case s == " " || s == "\n":
			right(t, s, end(1))
			right(t, "p"+s+"q", word("p", 0), word("q", 2), end(3))
			right(t, "1"+s+"2", num(1, 0), num(2, 2), end(3))
		case s >= "a" && s <= "z":
			right(t, s, word(s, 0), end(1))
			right(t, "p"+s, word("p"+s, 0), end(2))
		case s >= "0" && s <= "9":
			right(t, s, num(b-'0', 0), end(1))
			right(t, "p"+s, word("p"+s, 0), end(2))
		case s == "_":
			wrong(t, s, 0, api.ErrForm)
			right(t, "p"+s, word("p_", 0), end(2))
			wrong(t, "p "+s, 2, api.ErrForm)
			wrong(t, "1"+s, 1, api.ErrForm)
		case strings.Contains("()[]{},*.?+;!&|", s):
			right(t, s, sign(s, 0), end(1))
			right(t, "p"+s, word("p", 0), sign(s, 1), end(2))
			right(t, s+s+"2", sign(s, 0), sign(s, 1), num(2, 2), end(3))
		default:
			wrong(t, s, 0, api.ErrForm)
			wrong(t, "p"+s, 1, api.ErrForm)
			wrong(t, "p &\n"+s+" q", 4, api.ErrForm)
		}
	}
}

// P4.1: all texts of two bytes.
func TestEveryPair(t *testing.T) {
	for a := range 256 {
		for b := range 256 {
			asModel(t, string([]byte{byte(a), byte(b)}))
		}
	}
}

// P4.1: a word takes all it can; one of 17 bytes is none, wherever it stands.
func TestWords(t *testing.T) {
	right(t, "a0_z9", word("a0_z9", 0), end(5))
	right(t, "a__", word("a__", 0), end(3))
	right(t, "truefalse true", word("truefalse", 0), word("true", 10), end(14))
	wrong(t, "aB", 1, api.ErrForm)
	wrong(t, "p _q", 2, api.ErrForm)
	for _, letter := range []string{"a", "z", "0", "_"} {
		most := "x" + strings.Repeat(letter, 15)
		right(t, most, word(most, 0), end(16))
		right(t, most+"&"+most, word(most, 0), sign("&", 16), word(most, 17), end(33))
		wrong(t, most+letter, 0, api.ErrForm)
		wrong(t, most+letter+letter, 0, api.ErrForm)
		wrong(t, "p ("+most+letter+" -", 3, api.ErrForm)
		wrong(t, "12"+most+letter, 2, api.ErrForm)
	}
}

// P4.1: numbers to 9999; none with a 0 ahead.
func TestNumbers(t *testing.T) {
	for n := range 10000 {
		s := strconv.Itoa(n)
		right(t, s, num(n, 0), end(len(s)))
		if n < 1000 {
			wrong(t, "0"+s, 0, api.ErrForm)
		}
	}
	for _, s := range []string{"10000", "99999", "12345678", "00", "000", "0000", "00000", "01", "0123", "09999", "18446744073709551617"} {
		wrong(t, s, 0, api.ErrForm)
		wrong(t, "[1,"+s+"]", 3, api.ErrForm)
	}
	right(t, "7a", num(7, 0), word("a", 1), end(2))
	right(t, "9999a_", num(9999, 0), word("a_", 4), end(6))
	right(t, "0a", num(0, 0), word("a", 1), end(2))
	right(t, "0 0", num(0, 0), num(0, 2), end(3))
	right(t, "a 12", word("a", 0), num(12, 2), end(4))
	right(t, "1.5", num(1, 0), sign(".", 1), num(5, 2), end(3))
	wrong(t, "1234_", 4, api.ErrForm)
}

// P4.1: the arrow is one sign, and its bytes alone are none.
func TestArrow(t *testing.T) {
	right(t, "->", sign("->", 0), end(2))
	right(t, "->->", sign("->", 0), sign("->", 2), end(4))
	right(t, "p->!q", word("p", 0), sign("->", 1), sign("!", 3), word("q", 4), end(5))
	for s, at := range map[string]int{"-": 0, ">": 0, "- >": 0, "-\n>": 0, "-->": 0, "->>": 2, "->-": 2, "p-": 1, "p -1": 2, ">-": 0, "-a>": 0, "=>": 0} {
		wrong(t, s, at, api.ErrForm)
	}
}

// P4.1: only the bytes 32 and 10 are blanks, and only bytes count.
func TestNotBlanks(t *testing.T) {
	for _, s := range []string{"\t", "\r", "\v", "\f", "\x00", "\u00a0", "\u2003", "\ufeff", "\x7f", "\xff", "\u00e4", "\u0663", "\uff41", "\xe2\x82"} {
		wrong(t, s, 0, api.ErrForm)
		wrong(t, "p"+s+"q", 1, api.ErrForm)
		wrong(t, "p \n"+s, 3, api.ErrForm)
		wrong(t, "1"+s, 1, api.ErrForm)
	}
	wrong(t, "p\r\nq", 1, api.ErrForm)
}

// P4.1: the first fault tells, whatever follows.
func TestFirstFault(t *testing.T) {
	wrong(t, "p & Q & 00", 4, api.ErrForm)
	wrong(t, "p & 00 & Q", 4, api.ErrForm)
	wrong(t, "p & "+strings.Repeat("q", 17)+" & 00", 4, api.ErrForm)
	wrong(t, "p & - Q", 4, api.ErrForm)
}

// P4.1: the length of the text, whose error stands ahead of all others.
func TestLength(t *testing.T) {
	for _, part := range []string{" ", "\n", "(", "p ", "7 "} {
		s := strings.Repeat(part, 2000/len(part))
		if e := asModel(t, s); e != api.OK {
			t.Errorf("2000 bytes of %q: %v", part, e)
		}
		wrong(t, s+" ", 0, api.ErrMany)
		wrong(t, " "+s, 0, api.ErrMany)
		wrong(t, s+s+s, 0, api.ErrMany)
	}
	wrong(t, strings.Repeat(" ", 1999)+"A", 1999, api.ErrForm)
	wrong(t, strings.Repeat("A", 2000), 0, api.ErrForm)
	wrong(t, strings.Repeat("A", 2001), 0, api.ErrMany)
	wrong(t, strings.Repeat("p", 2001), 0, api.ErrMany)
	// Bytes are counted, not runes.
	wrong(t, strings.Repeat("é", 1001), 0, api.ErrMany)
	wrong(t, strings.Repeat("é", 1000), 0, api.ErrForm)
	right(t, strings.Repeat(" ", 1999)+"p", word("p", 1999), end(2000))
}

// P4.1: texts of pieces that may and may not stand beside one another.
func TestAnyText(t *testing.T) {
	pieces := []string{"p", "q_1", "once", "back", "0", "7", "10", "9999", " ", "\n", "  ", "(", ")", "[", "]", "{", "}", ",", "*", ".", "?", "+", ";", "!",
		"&", "|", "->", "abcdefgh"}
	faulty := append([]string{"-", ">", "_", "A", "\t", "é", "00", "10000"}, pieces...)
	r := rand.New(rand.NewSource(4))
	fine, faults := 0, 0
	for i := range 20000 {
		l := pieces
		if i%4 == 0 {
			l = faulty
		}
		var b strings.Builder
		for range r.Intn(14) {
			b.WriteString(l[r.Intn(len(l))])
		}
		if asModel(t, b.String()) == api.OK {
			fine++
		} else {
			faults++
		}
	}
	if fine < 5000 || faults < 2000 {
		t.Errorf("%d right texts, %d wrong ones", fine, faults)
	}
}

// P4.2: names are words, but for those of the formulas.
func TestName(t *testing.T) {
	taken := strings.Fields("true false prev next once hist some all since until back fore")
	if len(taken) != 12 {
		t.Fatal(taken)
	}
	for _, s := range taken {
		if Name(s) {
			t.Errorf("%q is a name", s)
		}
		for _, near := range []string{s + "s", s + "_", s + "1", "x" + s, s[1:], s[:len(s)-1], s + s} {
			if !Name(near) {
				t.Errorf("%q is no name", near)
			}
		}
	}
	for _, s := range []string{"a", "z", "p0", "p_", "a__9", "un", "and", "not", strings.Repeat("a", 16), "a" + strings.Repeat("_", 15), "z" + strings.Repeat("9", 15)} {
		if !Name(s) {
			t.Errorf("%q is no name", s)
		}
	}
	for _, s := range []string{"", "_", "_p", "9", "9p", "P", "pQ", "p-", "p q", " p", "p ", "p\n", "\np", "p\t", "p\x00", "p.", "é", "pé", "p\xff", "->", "*",
		"True", "TRUE", "true ", " true", strings.Repeat("a", 17), strings.Repeat("a", 1<<20)} {
		if Name(s) {
			t.Errorf("%q is a name", s[:min(len(s), 20)])
		}
	}
}

// P4.2: every byte as a name's first, second and last one.
func TestNameByByte(t *testing.T) {
	for b := range 256 {
		letter := b >= 'a' && b <= 'z'
		inside := letter || b >= '0' && b <= '9' || b == '_'
		c := string([]byte{byte(b)})
		for s, want := range map[string]bool{c: letter, c + "p": letter, "p" + c: inside, "p" + c + "q": inside, strings.Repeat("p", 15) + c: inside} {
			if Name(s) != want {
				t.Errorf("Name(%q) = %v", s, !want)
			}
		}
	}
}

// P4.1, P4.2: a name is one token, a word.
func TestNamesAreWords(t *testing.T) {
	r := rand.New(rand.NewSource(42))
	const letters = "abyz019_ A-"
	for range 20000 {
		b := make([]byte, r.Intn(19))
		for i := range b {
			b[i] = letters[r.Intn(len(letters))*r.Intn(2)]
		}
		s := string(b)
		toks, _, e := Lex(s)
		want := e == api.OK && len(toks) == 2 && toks[0] == word(s, 0)
		if Name(s) != want {
			t.Errorf("Name(%q) = %v", s, Name(s))
		}
	}
}

// P4.3: blanks between tokens, at both ends too, change the indexes alone.
func TestBlanks(t *testing.T) {
	pieces := []string{"p", "once", "q_1", "0", "12", "9999", "(", ")", "[", "]", "{", "}", ",", "*", ".", "?", "+", ";", "!", "&", "|", "->"}
	blanks := []string{" ", "\n", "  ", " \n", "\n\n "}
	r := rand.New(rand.NewSource(43))
	for range 5000 {
		tight, wide, last, places := "", "", "", []int{}
		for range r.Intn(20) {
			piece := pieces[r.Intn(len(pieces))]
			for range r.Intn(2) {
				wide += blanks[r.Intn(len(blanks))]
			}
			if touch(last, piece) {
				tight += " "
				wide += "\n"
			}
			places = append(places, len(wide))
			tight += piece
			wide += piece
			last = piece
		}
		wide += blanks[r.Intn(len(blanks))]
		sameButPlaces(t, tight, wide, append(places, len(wide)))
	}
}

// sameButPlaces fails unless both texts have the same tokens, those of wide at these places.
func sameButPlaces(t *testing.T, tight, wide string, places []int) {
	t.Helper()
	a, _, e := Lex(tight)
	b, _, f := Lex(wide)
	if e != api.OK || f != api.OK || len(a) != len(places) || len(b) != len(places) {
		t.Fatalf("%q: %v, %v; %q: %v, %v", tight, a, e, wide, b, f)
	}
	for i := range b {
		if b[i].At != places[i] {
			t.Errorf("%q: token %d is at %d, want %d", wide, i, b[i].At, places[i])
		}
		if b[i].At = a[i].At; a[i] != b[i] {
			t.Errorf("%q and %q: %v and %v", tight, wide, a[i], b[i])
		}
	}
}

// touch reports whether two pieces, one behind the other, would be read as one.
func touch(a, b string) bool {
	number := b[0] >= '0' && b[0] <= '9'
	word := b[0] >= 'a' && b[0] <= 'z'
	return a != "" && (a[0] >= 'a' && a[0] <= 'z' && (number || word) || a[0] >= '0' && a[0] <= '9' && number)
}

// P4.3: without blanks, what is one token stays one.
func TestBlanksPart(t *testing.T) {
	right(t, "a b", word("a", 0), word("b", 2), end(3))
	right(t, "ab", word("ab", 0), end(2))
	right(t, "1\n2", num(1, 0), num(2, 2), end(3))
	right(t, "12", num(12, 0), end(2))
	right(t, "a 1", word("a", 0), num(1, 2), end(3))
	right(t, "a1", word("a1", 0), end(2))
}

// R2: tokens are memory of their own, of each call.
func TestMemory(t *testing.T) {
	s := strings.Join([]string{"once", "[", "12", ",", "*", "]", "p", "->", "q"}, " ")
	from := uintptr(unsafe.Pointer(unsafe.StringData(s)))
	a, _, _ := Lex(s)
	for _, tok := range a {
		if at := uintptr(unsafe.Pointer(unsafe.StringData(tok.Text))); tok.Text != "" && at >= from && at < from+uintptr(len(s)) {
			t.Errorf("%v shares the memory of the text", tok)
		}
	}
	want := slices.Clone(a)
	for i := range a {
		a[i] = api.Tok{Kind: 9}
	}
	if b, _, _ := Lex(s); !slices.Equal(b, want) {
		t.Errorf("the second call answers %v", b)
	}
}
