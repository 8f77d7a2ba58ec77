package token

import (
	"strconv"
	"strings"

	"cascade/api"
	"cascade/block"
	"cascade/quote"
)

const (
	points = "..."
	row    = `"""`
)

// taker answers a closure that takes from the beginning of what is left of s
// as many bytes as a rule says, and answers them.
func taker(s string) func(rule func(c byte) bool) string {
	return func(rule func(c byte) bool) string {
		n := 0
		for n < len(s) && rule(s[n]) {
			n++
		}
		taken := s[:n]
		s = s[n:]
		return taken
	}
}

// between answers how many bytes at the beginning of s may stand between tokens.
func between(s string) int {
	inRemark := false
	return len(taker(s)(func(c byte) bool {
		switch c {
		case '\n', '\r':
			inRemark = false
			return true
		case '#':
			inRemark = true
			return true
		case ' ', '\t', ',':
			return true
		}
		return inRemark
	}))
}

// first answers the token that s begins with, without its place, and how many
// bytes it takes; or the place of what is wrong, and false.
func first(s string) (Token, int, bool) {
	if s == "" {
		return Token{}, 0, false
	}
	switch s[0] {
	case '!', '$', '&', '(', ')', ':', '=', '@', '[', ']', '{', '|', '}':
		return asItStands(signKind, s[:1], true)
	case '.':
		return asItStands(signKind, points, strings.HasPrefix(s, points))
	case '-', '0', '1', '2', '3', '4', '5', '6', '7', '8', '9':
		digits, ok := number(s)
		return asItStands(numberKind, digits, ok)
	case '"':
		if strings.HasPrefix(s, row) {
			return raw(s)
		}
		told, size, e := quote.Unquote(s)
		return Token{Kind: stringKind, S: told}, size, e == api.OK
	}
	name := taker(s)(inName)
	return asItStands(nameKind, name, name != "")
}

// asItStands answers what first does of a token that tells just its own bytes.
func asItStands(kind int, s string, ok bool) (Token, int, bool) {
	if !ok {
		return Token{}, 0, false
	}
	return Token{Kind: kind, S: strings.Clone(s)}, len(s), true
}

// number answers the number that s begins with, and whether it is one that may be.
func number(s string) (string, bool) {
	take := taker(s)
	minus, digits := take(isMinus), take(isDigit)
	// A 0 has no digits behind it: the number ends there.
	if strings.HasPrefix(digits, "0") {
		digits = "0"
	}
	n, err := strconv.ParseInt(minus+digits, 10, 64)
	if err != nil || n < -api.MaxNumber || n > api.MaxNumber || n == 0 && minus != "" {
		return "", false
	}
	return minus + digits, true
}

// raw is first for a raw text.
func raw(s string) (Token, int, bool) {
	end := rawEnd(s)
	if end < 0 || strings.ContainsFunc(s[:end], unfitForRaw) {
		return Token{}, 0, false
	}
	return Token{Kind: stringKind, S: block.Value(s[len(row):end])}, end + len(row), true
}

// rawEnd answers the place of the row that ends the raw text that s begins with, or -1.
func rawEnd(s string) int {
	at := len(row)
	for {
		ahead := strings.Index(s[at:], row)
		if ahead < 0 {
			return -1
		}
		at += ahead
		if s[at-1] != '\\' {
			return at
		}
		at += len(row)
	}
}

// unfitForRaw tells the runes that a raw text may not have.
func unfitForRaw(r rune) bool {
	return r < ' ' && r != '\t' && r != '\n' && r != '\r'
}

func inName(c byte) bool {
	return 'a' <= c && c <= 'z' || 'A' <= c && c <= 'Z' || c == '_' || isDigit(c)
}

func isDigit(c byte) bool {
	return '0' <= c && c <= '9'
}

func isMinus(c byte) bool {
	return c == '-'
}
