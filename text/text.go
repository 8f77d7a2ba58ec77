// Package text is layer 1: texts, runes, names and lines. See shared/doc/01-text.md.
package text

import (
	"strings"
	"unicode/utf8"

	"cascade/api"
)

// Right tells whether s is a text.
func Right(s string) bool {
	return Bad(s) < 0
}

// Bad answers the place of the first byte at which no whole rune begins, or -1.
func Bad(s string) int {
	for i, r := range s {
		if r == utf8.RuneError && !replacementAt(s, i) {
			return i
		}
	}
	return -1
}

// replacementAt tells a fffd that is there from the one that a range over a
// string gives for a byte at which no rune begins: just the bytes differ.
func replacementAt(s string, i int) bool {
	return strings.HasPrefix(s[i:], string(utf8.RuneError))
}

// Runes answers the runes of a text, and none of what is no text.
func Runes(s string) []rune {
	if !Right(s) {
		return nil
	}
	var l []rune
	for _, r := range s {
		l = append(l, r)
	}
	return l
}

// Of answers the text of these runes, or ErrText, if one can't be a text's.
func Of(l []rune) (string, api.Errno) {
	for _, r := range l {
		// A Builder would put fffd in its place.
		if !utf8.ValidRune(r) {
			return "", api.ErrText
		}
	}
	var b strings.Builder
	for _, r := range l {
		b.WriteRune(r)
	}
	return b.String(), api.OK
}

// Name tells whether s is a name.
func Name(s string) bool {
	for i, r := range s {
		if !letter(r) && (i == 0 || !digit(r)) {
			return false
		}
	}
	return s != ""
}

func letter(r rune) bool {
	return 'a' <= r && r <= 'z' || 'A' <= r && r <= 'Z' || r == '_'
}

func digit(r rune) bool {
	return '0' <= r && r <= '9'
}

// Lines answers what stands between the line ends of any bytes.
func Lines(s string) []string {
	var lines []string
	from := 0
	for i, r := range s {
		if r != '\r' && r != '\n' {
			continue
		}
		// A 0a behind a 0d belongs to the end at which the line was put already.
		if r == '\r' || i == 0 || s[i-1] != '\r' {
			lines = append(lines, strings.Clone(s[from:i]))
		}
		from = i + 1
	}
	return append(lines, strings.Clone(s[from:]))
}
