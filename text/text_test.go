package text_test

import (
	"slices"
	"strings"
	"testing"
	"unicode/utf8"
	"unsafe"

	"errata/api"
	"errata/runes"
	"errata/text"
)

// documents are texts with the pieces that the document asks for: a token is written in brackets there.
var documents = []struct {
	s      string
	pieces []string
}{
	{"", nil},
	{"a", []string{"[a]"}},
	{" ", []string{" "}},
	{"\x00", []string{"\x00"}},
	{"ab 1c", []string{"[ab]", " 1", "[c]"}},
	{"I arn.", []string{"[I]", " ", "[arn]", "."}},
	{" a ", []string{" ", "[a]", " "}},
	{"1 2,\n\t3", []string{"1 2,\n\t3"}},
	{"a1b2c", []string{"[a]", "1", "[b]", "2", "[c]"}},
	{"don't", []string{"[don]", "'", "[t]"}},
	{"AZaz", []string{"[AZaz]"}},
	{"@A[Z`a{z", []string{"@", "[A]", "[", "[Z]", "`", "[a]", "{", "[z]"}},
	{"\u00bf\u00c0", []string{"\u00bf", "[\u00c0]"}},
	{"\u00d6\u00d7\u00d8", []string{"[\u00d6]", "\u00d7", "[\u00d8]"}},
	{"\u00f6\u00f7\u00f8", []string{"[\u00f6]", "\u00f7", "[\u00f8]"}},
	{"\u1fff\u2000\u206f\u2070", []string{"[\u1fff]", "\u2000\u206f", "[\u2070]"}},
	{"a\u0080\u00e4\u20ac\U0001f600\U0010ffff", []string{"[a]", "\u0080", "[\u00e4\u20ac\U0001f600\U0010ffff]"}},
	{"\ufffd \ufffd", []string{"[\ufffd]", " ", "[\ufffd]"}},
	{"r\u00e4t \u2014 rat", []string{"[r\u00e4t]", " \u2014 ", "[rat]"}},
}

// noTexts are bytes that are no text.
var noTexts = []string{
	"\x80", "\xff", "a\xff", "\xffa", "a \xc3", "\xc3 a", "\xc0\x80", "\xed\xa0\x80", "\xf4\x90\x80\x80", "ab\xe2\x82", "a\xe2\x82b",
}

func token(from, to int) api.Span { return api.Span{From: from, To: to, Token: true} }

func gap(from, to int) api.Span { return api.Span{From: from, To: to} }

// bare is a piece without its brackets, and whether it has them.
func bare(piece string) (string, bool) {
	if len(piece) > 2 && piece[0] == '[' && piece[len(piece)-1] == ']' {
		return piece[1 : len(piece)-1], true
	}
	return piece, false
}

// spansOf is the spans of pieces, one behind the other, and the texts of the tokens.
func spansOf(pieces []string) ([]api.Span, []string) {
	var spans []api.Span
	var words []string
	at := 0
	for _, p := range pieces {
		s, token := bare(p)
		if token {
			words = append(words, s)
		}
		spans = append(spans, api.Span{From: at, To: at + len(s), Token: token})
		at += len(s)
	}
	return spans, words
}

func wantSplit(t *testing.T, s string, spans []api.Span, words []string, want api.Errno) {
	t.Helper()
	if l, err := text.Spans(s); !slices.Equal(l, spans) || err != want {
		t.Errorf("Spans(%.40q) = %.200v, %v; want %.200v, %v", s, l, err, spans, want)
	}
	if l, err := text.Tokens(s); !slices.Equal(l, words) || err != want {
		t.Errorf("Tokens(%.40q) = %.200q, %v; want %.200q, %v", s, l, err, words, want)
	}
}

func wantJoin(t *testing.T, s string, l []api.Span, to []string, want string, wantErr api.Errno) {
	t.Helper()
	if j, err := text.Join(s, l, to); j != want || err != wantErr {
		t.Errorf("Join(%.40q, %.200v, %.200q) = %.40q, %v; want %.40q, %v", s, l, to, j, err, want, wantErr)
	}
}

// P2.1
func TestPieces(t *testing.T) {
	for _, d := range documents {
		spans, words := spansOf(d.pieces)
		wantSplit(t, d.s, spans, words, api.OK)
	}
}

// P2.1: a piece is told by its runes' kind alone, wherever the rune stands in it.
func TestPiecesOfEveryRune(t *testing.T) {
	for r := int32(0); r <= 0x10FFFF; r++ {
		one, err := runes.Encode([]int32{r})
		if err != api.OK {
			continue
		}
		n := len(one)
		want := []api.Span{token(0, 1), gap(1, n+1), token(n+1, n+2)}
		if runes.Letter(r) {
			want = []api.Span{token(0, n+2)}
		}
		if l, err := text.Spans("a" + one + "z"); !slices.Equal(l, want) || err != api.OK {
			t.Fatalf("%#x between letters: %v, %v", r, l, err)
		}
		want = []api.Span{{From: 0, To: n, Token: runes.Letter(r)}}
		if l, err := text.Spans(one); !slices.Equal(l, want) || err != api.OK {
			t.Fatalf("%#x alone: %v, %v", r, l, err)
		}
	}
}

// P2.1
func TestBytesThatAreNoText(t *testing.T) {
	for _, s := range noTexts {
		wantSplit(t, s, nil, nil, api.ErrUTF)
		wantSplit(t, "ab "+s+" c", nil, nil, api.ErrUTF)
	}
}

// P2.1: the limit is in bytes, and it is told ahead of bytes that are no text.
func TestLongDocuments(t *testing.T) {
	whole := []api.Span{token(0, api.MaxText)}
	for _, r := range []string{"a", "\u00e4", "\U0001f600"} {
		s := strings.Repeat(r, api.MaxText/len(r))
		wantSplit(t, s, whole, []string{s}, api.OK)
		wantSplit(t, s+"a", nil, nil, api.ErrLong)
		wantSplit(t, s+"\xff", nil, nil, api.ErrLong)
		wantSplit(t, s[1:]+"\xff", nil, nil, api.ErrUTF)
	}
	wantSplit(t, strings.Repeat("\xff", api.MaxText), nil, nil, api.ErrUTF)
	wantSplit(t, strings.Repeat("\xff", api.MaxText+1), nil, nil, api.ErrLong)
	wantSplit(t, strings.Repeat(" ", api.MaxText), []api.Span{gap(0, api.MaxText)}, nil, api.OK)
	wantSplit(t, strings.Repeat(" ", api.MaxText+1), nil, nil, api.ErrLong)
}

// P2.1, P1: as many pieces as there can be.
func TestManyPieces(t *testing.T) {
	s := strings.Repeat("a ", api.MaxText/2)
	l, err := text.Spans(s)
	if len(l) != api.MaxText || err != api.OK || !text.Check(s, l) {
		t.Fatal(len(l), err)
	}
	words, err := text.Tokens(s)
	if len(words) != api.MaxText/2 || err != api.OK {
		t.Fatal(len(words), err)
	}
	wantJoin(t, s, l, words, s, api.OK)
	wantJoin(t, s, l, words[1:], "", api.ErrArg)
}

// P2.2
func TestCheck(t *testing.T) {
	for _, d := range documents {
		spans, _ := spansOf(d.pieces)
		if !text.Check(d.s, spans) {
			t.Errorf("Check(%q, %v) = false", d.s, spans)
		}
	}
	if !text.Check("", nil) || !text.Check("", []api.Span{}) {
		t.Error("nil and empty are not one")
	}
}

// wrong is lists that are not the pieces of "ab 1c".
var wrong = map[string][]api.Span{
	"none":               nil,
	"one less behind":    {token(0, 2), gap(2, 4)},
	"one less ahead":     {gap(2, 4), token(4, 5)},
	"one more, empty":    {token(0, 2), gap(2, 4), token(4, 5), gap(5, 5)},
	"one more, beyond":   {token(0, 2), gap(2, 4), token(4, 5), gap(5, 6)},
	"an empty one first": {gap(0, 0), token(0, 2), gap(2, 4), token(4, 5)},
	"a token cut":        {token(0, 1), token(1, 2), gap(2, 4), token(4, 5)},
	"a separator cut":    {token(0, 2), gap(2, 3), gap(3, 4), token(4, 5)},
	"one for all":        {gap(0, 5)},
	"no token":           {gap(0, 2), gap(2, 4), token(4, 5)},
	"all tokens":         {token(0, 2), token(2, 4), token(4, 5)},
	"a gap":              {token(0, 2), gap(3, 4), token(4, 5)},
	"one over another":   {token(0, 3), gap(2, 4), token(4, 5)},
	"out of order":       {gap(2, 4), token(0, 2), token(4, 5)},
	"twice":              {token(0, 2), token(0, 2), gap(2, 4), token(4, 5)},
	"the wrong way":      {token(2, 0), gap(2, 4), token(4, 5)},
	"negative":           {token(-1, 2), gap(2, 4), token(4, 5)},
	"far away":           {token(0, 2), gap(2, 4), token(4, 1<<62)},
	"farther":            {token(-1<<63, 1<<63-1)},
}

// P2.2, P1
func TestListsThatAreNotThePieces(t *testing.T) {
	for name, l := range wrong {
		if text.Check("ab 1c", l) {
			t.Errorf("Check of %s = true", name)
		}
		for _, to := range [][]string{nil, {"x"}, {"x", "y"}, {"x", "y", "z"}} {
			wantJoin(t, "ab 1c", l, to, "", api.ErrForm)
		}
	}
	wantJoin(t, "", []api.Span{{}}, nil, "", api.ErrForm)
	wantJoin(t, "", []api.Span{{Token: true}}, []string{"x"}, "", api.ErrForm)
}

// P2.2: what is no document has no pieces, not even none.
func TestPiecesOfNoDocument(t *testing.T) {
	for _, s := range append(slices.Clone(noTexts), strings.Repeat("a", api.MaxText+1)) {
		for _, l := range [][]api.Span{nil, {token(0, len(s))}, {gap(0, len(s))}} {
			if text.Check(s, l) {
				t.Errorf("Check(%.40q, %v) = true", s, l)
			}
			wantJoin(t, s, l, nil, "", api.ErrForm)
			wantJoin(t, s, l, []string{"x"}, "", api.ErrForm)
		}
	}
}

// P2.2
func TestJoin(t *testing.T) {
	s, ends := "ab 1c", " ab 1c!"
	l, _ := text.Spans(s)
	m, _ := text.Spans(ends)
	wantJoin(t, s, l, []string{"x", "yz"}, "x 1yz", api.OK)
	wantJoin(t, s, l, []string{"", ""}, " 1", api.OK)
	wantJoin(t, ends, m, []string{"longer", "\u00e4"}, " longer 1\u00e4!", api.OK)
	// What is put in may be anything: the chapter asks nothing of it.
	wantJoin(t, s, l, []string{"1 2", "\xff"}, "1 2 1\xff", api.OK)
	wantJoin(t, " 1", []api.Span{gap(0, 2)}, nil, " 1", api.OK)
	wantJoin(t, "", nil, nil, "", api.OK)
	wantJoin(t, "", []api.Span{}, []string{}, "", api.OK)
	long := strings.Repeat("a", api.MaxText+1)
	wantJoin(t, s, l, []string{long, long}, long+" 1"+long, api.OK)
}

// P2.2
func TestJoinOfTooFewOrTooMany(t *testing.T) {
	l, _ := text.Spans("ab 1c")
	for _, to := range [][]string{nil, {}, {"x"}, {"x", "y", "z"}, {"", "", ""}} {
		wantJoin(t, "ab 1c", l, to, "", api.ErrArg)
	}
	wantJoin(t, " 1", []api.Span{gap(0, 2)}, []string{"x"}, "", api.ErrArg)
	wantJoin(t, "", nil, []string{""}, "", api.ErrArg)
}

// wantWhole holds the pieces of a document against each other and against the document.
func wantWhole(t *testing.T, s string) {
	t.Helper()
	l, err := text.Spans(s)
	words, wordsErr := text.Tokens(s)
	if err != api.OK || wordsErr != api.OK || !text.Check(s, l) {
		t.Fatalf("%q: %v, %v", s, err, wordsErr)
	}
	whole, next := "", 0
	for i, p := range l {
		if p.From != len(whole) || p.To <= p.From || i > 0 && p.Token == l[i-1].Token {
			t.Fatalf("%q: %v", s, l)
		}
		piece := s[p.From:p.To]
		if p.Token {
			if !runes.Letters(piece) || next >= len(words) || words[next] != piece {
				t.Fatalf("%q: token %q of %q", s, piece, words)
			}
			next++
		}
		if decoded, _ := runes.Decode(piece); !p.Token && slices.ContainsFunc(decoded, runes.Letter) {
			t.Fatalf("%q: a letter in %q", s, piece)
		}
		whole += piece
	}
	if whole != s || next != len(words) {
		t.Fatalf("%q: %q, %q", s, whole, words)
	}
	wantJoin(t, s, l, words, s, api.OK)
}

// P2.3
func TestWhole(t *testing.T) {
	for _, d := range documents {
		for _, e := range documents {
			wantWhole(t, d.s+e.s)
		}
	}
	some := []string{"a", "\u00e4", " ", "\u00d7", "\u2014"}
	rows := []string{""}
	for range 5 {
		var longer []string
		for _, s := range rows {
			wantWhole(t, s)
			for _, r := range some {
				longer = append(longer, s+r)
			}
		}
		rows = longer
	}
}

// P1, P2.3: whatever the bytes are, a call answers, and the pieces are the whole.
func FuzzSpans(f *testing.F) {
	for _, d := range documents {
		f.Add(d.s)
	}
	for _, s := range noTexts {
		f.Add(s)
	}
	f.Fuzz(func(t *testing.T, s string) {
		if len(s) <= api.MaxText && utf8.ValidString(s) {
			wantWhole(t, s)
			return
		}
		want := api.ErrUTF
		if len(s) > api.MaxText {
			want = api.ErrLong
		}
		wantSplit(t, s, nil, nil, want)
		wantJoin(t, s, nil, nil, "", api.ErrForm)
	})
}

// Rule 4: what is handed in is not changed, its spare room included.
func TestWhatIsHandedInStays(t *testing.T) {
	spans := []api.Span{token(0, 2), gap(2, 4), token(4, 5), token(-7, -8)}
	to := []string{"x", "y", "z"}
	oldSpans, oldTo := slices.Clone(spans), slices.Clone(to)
	text.Check("ab 1c", spans[:3])
	wantJoin(t, "ab 1c", spans[:3], to[:2], "x 1y", api.OK)
	wantJoin(t, "ab 1c", spans[:3], to[:1], "", api.ErrArg)
	wantJoin(t, "ab 1c", spans[:2], to[:1], "", api.ErrForm)
	if !slices.Equal(spans, oldSpans) || !slices.Equal(to, oldTo) {
		t.Error(spans, to)
	}
}

// Rule 4: an answer is new memory, and nothing of it is kept.
func TestAnswersAreNew(t *testing.T) {
	a, _ := text.Spans("ab 1c")
	b, _ := text.Spans("ab 1c")
	w, _ := text.Tokens("ab 1c")
	v, _ := text.Tokens("ab 1c")
	a[0], w[0] = api.Span{}, "z"
	_, _ = append(a, api.Span{}), append(w, "z")
	if !text.Check("ab 1c", b) || !slices.Equal(v, []string{"ab", "c"}) {
		t.Error(b, v)
	}
	wantSplit(t, "ab 1c", b, v, api.OK)
}

// Rule 4: a text that is answered shares no memory with one that was handed in.
func TestAnsweredTextsAreNew(t *testing.T) {
	within := func(a, s string) bool {
		from, at := uintptr(unsafe.Pointer(unsafe.StringData(s))), uintptr(unsafe.Pointer(unsafe.StringData(a)))
		return from <= at && at < from+uintptr(len(s))
	}
	for _, s := range []string{"ab", "ab 1c", " 1"} {
		l, _ := text.Spans(s)
		words, _ := text.Tokens(s)
		for _, w := range words {
			if within(w, s) {
				t.Errorf("%q is a piece of %q itself", w, s)
			}
		}
		j, _ := text.Join(s, l, words)
		if within(j, s) || slices.ContainsFunc(words, func(w string) bool { return within(j, w) }) {
			t.Errorf("%q is %q itself", j, s)
		}
	}
}
