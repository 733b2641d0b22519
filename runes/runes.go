// Package runes is layer 1, strings as runes: see shared/doc/01-runes.md.
package runes

import (
	"iter"
	"slices"
	"strings"
	"unicode/utf8"

	"errata/api"
)

// noRune is handed on in place of bytes that are no text: no rune is negative.
const noRune int32 = -1

// runesOf hands on the runes of s. At bytes that are no text it hands on
// noRune and ends: behind them it is not told where a rune begins.
func runesOf(s string) iter.Seq[int32] {
	return func(yield func(int32) bool) {
		for at := 0; at < len(s); {
			r, size := utf8.DecodeRuneInString(s[at:])
			// RuneError is a rune of three bytes, too: only its size tells the two apart.
			if r == utf8.RuneError && size == 1 {
				yield(noRune)
				return
			}
			if !yield(r) {
				return
			}
			at += size
		}
	}
}

// Decode is the runes of the text s, or ErrUTF.
func Decode(s string) ([]int32, api.Errno) {
	var l []int32
	err := api.OK
row:
	for r := range runesOf(s) {
		switch r {
		case noRune:
			l, err = nil, api.ErrUTF
			break row
		default:
			l = append(l, r)
		}
	}
	return l, err
}

// Encode is the text of the runes l, or ErrUTF.
func Encode(l []int32) (string, api.Errno) {
	var b strings.Builder
	for _, r := range l {
		// WriteRune would lay RuneError for what is no rune, and tell nothing.
		if !utf8.ValidRune(r) {
			return "", api.ErrUTF
		}
		b.WriteRune(r)
	}
	return b.String(), api.OK
}

// Letter says whether r is a letter.
func Letter(r int32) bool {
	switch {
	case 'A' <= r && r <= 'Z', 'a' <= r && r <= 'z':
		return true
	case r == 0xD7, r == 0xF7, 0x2000 <= r && r <= 0x206F:
		return false
	}
	return r >= 0xC0 && utf8.ValidRune(r)
}

// Letters says whether s is a text, not empty, of nothing but letters.
func Letters(s string) bool {
	for r := range runesOf(s) {
		// noRune is no letter, so bytes that are no text are told here as well.
		if !Letter(r) {
			return false
		}
	}
	return s != ""
}

// Token is the runes of the token s, or why it is none.
func Token(s string) ([]int32, api.Errno) {
	l, err := Decode(s)
	switch {
	case err != api.OK:
		return nil, err
	case len(l) == 0:
		return nil, api.ErrEmpty
	case len(l) > api.MaxToken:
		return nil, api.ErrLong
	}
	return l, api.OK
}

// Compare is -1, 0 or 1, as a comes ahead of b, is b, or comes behind it.
func Compare(a, b []int32) int { return slices.Compare(a, b) }
