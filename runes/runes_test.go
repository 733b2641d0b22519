package runes_test

import (
	"bytes"
	"math"
	"slices"
	"strings"
	"testing"
	"unicode/utf8"

	"errata/api"
	"errata/runes"
)

// edges are the first and last rune of each length, with the bytes that the document asks for.
var edges = []struct {
	r int32
	s string
}{
	{0, "\x00"}, {0x7F, "\x7f"},
	{0x80, "\xc2\x80"}, {0xE4, "\xc3\xa4"}, {0x7FF, "\xdf\xbf"},
	{0x800, "\xe0\xa0\x80"}, {0xD7FF, "\xed\x9f\xbf"}, {0xE000, "\xee\x80\x80"},
	{0xFFFD, "\xef\xbf\xbd"}, {0xFFFF, "\xef\xbf\xbf"},
	{0x10000, "\xf0\x90\x80\x80"}, {0x10FFFF, "\xf4\x8f\xbf\xbf"},
}

// noRunes are numbers that are no rune.
var noRunes = []int32{math.MinInt32, -0x100, -2, -1, 0xD800, 0xDBFF, 0xDC00, 0xDFFF, 0x110000, 0x1FFFFF, 0x200000, math.MaxInt32}

// noTexts are bytes that are no text.
var noTexts = []string{
	"\x80", "\xbf", // no first byte
	"\xc0\x80", "\xc1\xbf", "\xe0\x80\x80", "\xe0\x9f\xbf", "\xf0\x80\x80\x80", "\xf0\x8f\xbf\xbf", // longer than need be
	"\xed\xa0\x80", "\xed\xbf\xbf", // 0xD800, 0xDFFF
	"\xf4\x90\x80\x80", "\xf7\xbf\xbf\xbf", // above 0x10FFFF
	"\xf8\x88\x80\x80\x80", "\xfc\x84\x80\x80\x80\x80", "\xfe", "\xff", // five bytes and more
	"\xc3", "\xe2", "\xe2\x82", "\xf0", "\xf0\x9f", "\xf0\x9f\x98", // too few bytes
	"\xc3a", "\xe2\x82a", "\xe2a\x82", "\xf0\x9f\x98a", "\xc3\xc3\xa4", // cut off by another one
}

// bytesOf is the bytes of a rune, as the document says them.
func bytesOf(r int32) string {
	last := func(shift int) byte { return 0x80 | byte(r>>shift&0x3F) }
	switch {
	case r < 0x80:
		return string([]byte{byte(r)})
	case r < 0x800:
		return string([]byte{0xC0 | byte(r>>6), last(0)})
	case r < 0x10000:
		return string([]byte{0xE0 | byte(r>>12), last(6), last(0)})
	}
	return string([]byte{0xF0 | byte(r>>18), last(12), last(6), last(0)})
}

func isRune(r int32) bool { return r >= 0 && r <= 0x10FFFF && (r < 0xD800 || r > 0xDFFF) }

func wantDecode(t *testing.T, s string, want []int32, wantErr api.Errno) {
	t.Helper()
	if l, err := runes.Decode(s); !slices.Equal(l, want) || err != wantErr {
		t.Errorf("Decode(%q) = %v, %v; want %v, %v", s, l, err, want, wantErr)
	}
}

func wantEncode(t *testing.T, l []int32, want string, wantErr api.Errno) {
	t.Helper()
	if s, err := runes.Encode(l); s != want || err != wantErr {
		t.Errorf("Encode(%v) = %q, %v; want %q, %v", l, s, err, want, wantErr)
	}
}

// P1.1
func TestDecodeAndEncodeTexts(t *testing.T) {
	for _, x := range edges {
		wantDecode(t, x.s, []int32{x.r}, api.OK)
		wantEncode(t, []int32{x.r}, x.s, api.OK)
	}
	var all []int32
	var text string
	for _, x := range edges {
		all, text = append(all, x.r), text+x.s
	}
	wantDecode(t, text, all, api.OK)
	wantEncode(t, all, text, api.OK)
	wantDecode(t, "read", []int32{'r', 'e', 'a', 'd'}, api.OK)
	wantEncode(t, []int32{'r', 'e', 'a', 'd'}, "read", api.OK)
	wantDecode(t, "", nil, api.OK)
	wantEncode(t, nil, "", api.OK)
	wantEncode(t, []int32{}, "", api.OK)
}

// P1.1
func TestEveryNumber(t *testing.T) {
	for r := int32(-0x100); r <= 0x110100; r++ {
		if isRune(r) {
			wantEncode(t, []int32{r}, bytesOf(r), api.OK)
			wantDecode(t, bytesOf(r), []int32{r}, api.OK)
		} else {
			wantEncode(t, []int32{r}, "", api.ErrUTF)
		}
	}
}

// P1.1
func TestNumbersThatAreNoRune(t *testing.T) {
	for _, r := range noRunes {
		wantEncode(t, []int32{r}, "", api.ErrUTF)
		wantEncode(t, []int32{r, 'a'}, "", api.ErrUTF)
		wantEncode(t, []int32{'a', 0xE4, r}, "", api.ErrUTF)
		wantEncode(t, []int32{'a', r, 'b'}, "", api.ErrUTF)
	}
}

// P1.1
func TestBytesThatAreNoText(t *testing.T) {
	for _, s := range noTexts {
		wantDecode(t, s, nil, api.ErrUTF)
		wantDecode(t, s+"a", nil, api.ErrUTF)
		wantDecode(t, "a\u00e4"+s, nil, api.ErrUTF)
		wantDecode(t, "\ufffd"+s+"\u20ac", nil, api.ErrUTF)
	}
}

// P1.1: these rows begin with a byte from 0x80 on, and from the third byte on none can begin a
// rune; so such a row is the bytes of one rune, or no text.
func TestEveryRowOfFewBytes(t *testing.T) {
	texts := map[string]int32{}
	for r := int32(0x80); r <= 0x10FFFF; r++ {
		if isRune(r) {
			texts[bytesOf(r)] = r
		}
	}
	check := func(row ...byte) {
		if r, ok := texts[string(row)]; ok {
			wantDecode(t, string(row), []int32{r}, api.OK)
		} else {
			wantDecode(t, string(row), nil, api.ErrUTF)
		}
	}
	tails := []byte{0x80, 0x81, 0x8F, 0x90, 0x9F, 0xA0, 0xBE, 0xBF}
	for a := 0x80; a <= 0xFF; a++ {
		check(byte(a))
		for b := range 256 {
			check(byte(a), byte(b))
			for _, c := range tails {
				check(byte(a), byte(b), c)
				for _, d := range tails {
					check(byte(a), byte(b), c, d)
				}
			}
		}
	}
}

// P1.2
func TestLetterAtTheEdges(t *testing.T) {
	for _, x := range []struct {
		r  int32
		is bool
	}{
		{0, false}, {'0', false}, {'9', false}, {' ', false}, {'-', false},
		{'A' - 1, false}, {'A', true}, {'Z', true}, {'Z' + 1, false},
		{'a' - 1, false}, {'a', true}, {'z', true}, {'z' + 1, false},
		{0x7F, false}, {0x80, false}, {0xAA, false}, {0xB5, false}, {0xBF, false}, {0xC0, true},
		{0xD6, true}, {0xD7, false}, {0xD8, true},
		{0xF6, true}, {0xF7, false}, {0xF8, true},
		{0x1FFF, true}, {0x2000, false}, {0x2014, false}, {0x206F, false}, {0x2070, true},
		{0x3000, true}, {0xD7FF, true}, {0xE000, true}, {0xFFFD, true}, {0xFFFF, true}, {0x10000, true}, {0x10FFFF, true},
	} {
		if runes.Letter(x.r) != x.is {
			t.Errorf("Letter(%#x) = %v", x.r, !x.is)
		}
	}
	for _, r := range noRunes {
		if runes.Letter(r) {
			t.Errorf("Letter(%#x) = true", r)
		}
	}
}

// P1.2
func TestLetterOfEveryNumber(t *testing.T) {
	letters := [][2]int32{{'A', 'Z'}, {'a', 'z'}, {0xC0, 0xD6}, {0xD8, 0xF6}, {0xF8, 0x1FFF}, {0x2070, 0xD7FF}, {0xE000, 0x10FFFF}}
	for r := int32(-0x100); r <= 0x110100; r++ {
		want := slices.ContainsFunc(letters, func(l [2]int32) bool { return l[0] <= r && r <= l[1] })
		if runes.Letter(r) != want {
			t.Fatalf("Letter(%#x) = %v", r, !want)
		}
	}
}

// P1.2
func TestLetters(t *testing.T) {
	for _, x := range []struct {
		s  string
		is bool
	}{
		{"", false}, {"a", true}, {"Zz", true}, {"r\u00e4t", true}, {"\U0010ffff\u2070", true}, {"\ufffd", true},
		{strings.Repeat("\u00e4", 65), true}, {strings.Repeat("a", 1000) + "1", false},
		{" ", false}, {"a b", false}, {" a", false}, {"a ", false}, {"a1", false}, {"1a", false},
		{"a\u00d7b", false}, {"\u00f7", false}, {"a\u2000", false}, {"\u206fa", false}, {"\x00", false},
	} {
		if runes.Letters(x.s) != x.is {
			t.Errorf("Letters(%q) = %v", x.s, !x.is)
		}
	}
	for _, s := range noTexts {
		if runes.Letters(s) || runes.Letters("a"+s) || runes.Letters("\u00e4"+s+"b") {
			t.Errorf("Letters with %q = true", s)
		}
	}
}

func wantToken(t *testing.T, s string, want api.Errno) {
	t.Helper()
	l, err := runes.Token(s)
	if err != want || err != api.OK && len(l) != 0 {
		t.Errorf("Token(%q) = %v, %v; want %v", s, l, err, want)
	}
	if decoded, _ := runes.Decode(s); err == api.OK && !slices.Equal(l, decoded) {
		t.Errorf("Token(%q) = %v; want %v", s, l, decoded)
	}
}

// P1.2
func TestToken(t *testing.T) {
	wantToken(t, "", api.ErrEmpty)
	for _, r := range []string{"a", " ", "\x00", "\u00e4", "\u20ac", "\U0001f600"} {
		for _, n := range []int{1, 2, 63, 64} {
			wantToken(t, strings.Repeat(r, n), api.OK)
		}
		for _, n := range []int{65, 66, 256, 1000} {
			wantToken(t, strings.Repeat(r, n), api.ErrLong)
		}
	}
	if l, err := runes.Token("r\u00e4t"); !slices.Equal(l, []int32{'r', 0xE4, 't'}) || err != api.OK {
		t.Error(l, err)
	}
	// What is no text is told first, however long it is.
	for _, s := range noTexts {
		wantToken(t, s, api.ErrUTF)
		wantToken(t, strings.Repeat("a", 64)+s, api.ErrUTF)
		wantToken(t, strings.Repeat("a", 65)+s, api.ErrUTF)
		wantToken(t, s+strings.Repeat("a", 65), api.ErrUTF)
	}
}

// P1.2
func TestCompare(t *testing.T) {
	// Each comes ahead of all behind it.
	rows := [][]int32{
		nil,
		{math.MinInt32}, {math.MinInt32, math.MaxInt32}, {-1}, {-1, 0}, {0}, {0, 0}, {0, 1}, {1}, {1, 2}, {1, 2, 0}, {1, 3}, {2},
		{0xD7FF}, {0xE000}, {0xFFFF}, {0x10000}, {0x10FFFF}, {math.MaxInt32, math.MinInt32}, {math.MaxInt32, 0}, {math.MaxInt32, math.MaxInt32},
	}
	for i, a := range rows {
		for j, b := range rows {
			want := 0
			if i < j {
				want = -1
			} else if i > j {
				want = 1
			}
			if n := runes.Compare(a, slices.Clone(b)); n != want {
				t.Errorf("Compare(%v, %v) = %d; want %d", a, b, n, want)
			}
		}
	}
	if runes.Compare(nil, []int32{}) != 0 || runes.Compare([]int32{}, nil) != 0 {
		t.Error("nil and empty are not one")
	}
}

// P1.3
func TestThereAndBack(t *testing.T) {
	for _, x := range edges {
		for _, y := range edges {
			for _, z := range edges {
				l, s := []int32{x.r, y.r, z.r}, x.s+y.s+z.s
				wantEncode(t, l, s, api.OK)
				wantDecode(t, s, l, api.OK)
			}
		}
	}
}

// P1.3
func TestTextsCompareAsTheirBytesDo(t *testing.T) {
	texts := []string{"", "am", "an", "arn", "r\u00e4t", "rat", "rats", "rz"}
	for _, x := range edges {
		for _, y := range edges {
			texts = append(texts, x.s, x.s+y.s, "a"+x.s+y.s)
		}
	}
	for _, s := range texts {
		for _, u := range texts {
			a, _ := runes.Decode(s)
			b, _ := runes.Decode(u)
			if n, want := runes.Compare(a, b), strings.Compare(s, u); n != want {
				t.Errorf("%q and %q: %d; want %d", s, u, n, want)
			}
		}
	}
}

// P1, P1.3: whatever the bytes are, a call answers, and what it decodes is encoded as it was.
func FuzzDecode(f *testing.F) {
	for _, x := range edges {
		f.Add(x.s)
	}
	for _, s := range noTexts {
		f.Add("a" + s)
	}
	f.Fuzz(func(t *testing.T, s string) {
		l, err := runes.Decode(s)
		if (err == api.OK) != utf8.ValidString(s) || err != api.OK && (len(l) != 0 || err != api.ErrUTF) {
			t.Fatalf("Decode(%q) = %v, %v", s, l, err)
		}
		if u, e := runes.Encode(l); err == api.OK && (u != s || e != api.OK) {
			t.Fatalf("Encode(Decode(%q)) = %q, %v", s, u, e)
		}
	})
}

// Rule 4: what is handed in is not changed, its spare room included, nor is it kept.
func TestWhatIsHandedInStays(t *testing.T) {
	whole := []int32{'a', 0xE4, 'b', 'c', -7}
	row := whole[:3]
	s, _ := runes.Encode(row)
	runes.Compare(row, row[:2])
	if !slices.Equal(whole, []int32{'a', 0xE4, 'b', 'c', -7}) {
		t.Error(whole)
	}
	row[0] = 'z'
	if s != "a\u00e4b" {
		t.Errorf("%q", s)
	}
}

// Rule 4: an answer is new memory.
func TestAnswersAreNew(t *testing.T) {
	for name, call := range map[string]func(string) ([]int32, api.Errno){"Decode": runes.Decode, "Token": runes.Token} {
		a, _ := call("abc")
		b, _ := call("abc")
		a[0] = 'z'
		_ = append(a, 'z')
		if c, _ := call("abc"); !slices.Equal(b, []int32{'a', 'b', 'c'}) || !slices.Equal(c, b) {
			t.Error(name, b, c)
		}
	}
}

// P1: a long text ends as a short one does.
func TestLongTexts(t *testing.T) {
	long := bytes.Repeat([]byte("a\u00e4\u20ac\U0001f600"), 1<<16)
	l, err := runes.Decode(string(long))
	if len(l) != 4<<16 || err != api.OK {
		t.Fatal(len(l), err)
	}
	if s, err := runes.Encode(l); s != string(long) || err != api.OK {
		t.Error(len(s), err)
	}
	if l, err := runes.Decode(string(long[:len(long)-1])); len(l) != 0 || err != api.ErrUTF {
		t.Error(len(l), err)
	}
}
