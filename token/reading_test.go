package token_test

import (
	"math/big"
	"regexp"
	"slices"
	"strings"
	"testing"
	"unicode/utf8"

	"cascade/api"
	"cascade/block"
	"cascade/quote"
	"cascade/token"
)

// A second reading of the chapter, by patterns.

var (
	betweenAll = regexp.MustCompile(`^(?:[ \t\r\n,]|#[^\r\n]*)*`)
	signAhead  = regexp.MustCompile(`^(?:[!$&():=@\[\]{|}]|\.\.\.)`)
	nameAhead  = regexp.MustCompile(`^[A-Za-z_][0-9A-Za-z_]*`)
	numAhead   = regexp.MustCompile(`^-?(?:0|[1-9][0-9]*)`)
	stuck      = regexp.MustCompile(`^[0-9A-Za-z_.]`)
	lowRune    = regexp.MustCompile(`[\x00-\x08\x0b\x0c\x0e-\x1f]`)
	greatest   = big.NewInt(9007199254740991)
)

// inRange tells whether a number is from -MaxNumber to MaxNumber, and isn't -0.
func inRange(s string) bool {
	n, ok := new(big.Int).SetString(s, 10)
	return ok && n.CmpAbs(greatest) <= 0 && s != "-0"
}

// badRune answers the place of the first byte at which no rune begins, or -1.
func badRune(s string) int {
	for i := 0; i < len(s); {
		r, n := utf8.DecodeRuneInString(s[i:])
		if r == utf8.RuneError && n == 1 {
			return i
		}
		i += n
	}
	return -1
}

// rawOf answers what stands between the two rows of a raw text, by the pieces between all rows.
func rawOf(s string) (string, bool) {
	pieces := strings.Split(s[3:], `"""`)
	for i, piece := range pieces[:len(pieces)-1] {
		if !strings.HasSuffix(piece, `\`) {
			inside := strings.Join(pieces[:i+1], `"""`)
			return inside, !lowRune.MatchString(inside)
		}
	}
	return "", false
}

// oneOf answers the token that s begins with, and its bytes; or the place of what is wrong, and false.
func oneOf(s string) (token.Token, int, bool) {
	if m := signAhead.FindString(s); m != "" {
		return token.Token{Kind: 1, S: m}, len(m), true
	}
	if m := nameAhead.FindString(s); m != "" {
		return token.Token{Kind: 2, S: m}, len(m), true
	}
	if m := numAhead.FindString(s); m != "" {
		if !inRange(m) {
			return token.Token{}, 0, false
		}
		return token.Token{Kind: 3, S: m}, len(m), true
	}
	if strings.HasPrefix(s, `"""`) {
		inside, ok := rawOf(s)
		if !ok {
			return token.Token{}, 0, false
		}
		return token.Token{Kind: 4, S: block.Value(inside)}, len(inside) + 6, true
	}
	if strings.HasPrefix(s, `"`) {
		told, n, e := quote.Unquote(s)
		return token.Token{Kind: 4, S: told}, n, e == api.OK
	}
	return token.Token{}, 0, false
}

// lexed is a second reading of Lex.
func lexed(s string) ([]token.Token, api.Fault) {
	if len(s) > 4000 {
		return nil, api.Fault{E: api.ErrLong}
	}
	if at := badRune(s); at >= 0 {
		return nil, api.Fault{E: api.ErrText, At: at}
	}
	var l []token.Token
	at, afterNumber := 0, false
	for {
		n := len(betweenAll.FindString(s[at:]))
		at += n
		if at == len(s) {
			return l, api.Fault{}
		}
		if len(l) >= 900 {
			return nil, api.Fault{E: api.ErrLong, At: at}
		}
		if n == 0 && afterNumber && stuck.MatchString(s[at:]) {
			return nil, api.Fault{E: api.ErrToken, At: at}
		}
		x, size, ok := oneOf(s[at:])
		if !ok {
			return nil, api.Fault{E: api.ErrToken, At: at + size}
		}
		x.At = at
		l = append(l, x)
		afterNumber = x.Kind == 3
		at += size
	}
}

// plained is a second reading of Plain.
func plained(l []token.Token) string {
	var rows []string
	for _, x := range l {
		s := x.S
		ok := false
		switch x.Kind {
		case 1:
			ok = s == signAhead.FindString(s) && s != ""
		case 2:
			ok = s == nameAhead.FindString(s) && s != ""
		case 3:
			ok = s == numAhead.FindString(s) && inRange(s)
		case 4:
			var e api.Errno
			s, e = quote.Quote(s)
			ok = e == api.OK
		}
		if !ok {
			return ""
		}
		rows = append(rows, s)
	}
	return strings.Join(rows, " ")
}

// checkLex holds Lex of s against the second reading, its places against the text, and what is
// plain of it against P8.3; it tells whether s has tokens.
func checkLex(t *testing.T, s string) bool {
	t.Helper()
	l, f := token.Lex(s)
	want, wantFault := lexed(s)
	if !slices.Equal(l, want) || f != wantFault {
		t.Fatalf("Lex(%q) = %v, %v, want %v, %v", s, l, f, want, wantFault)
	}
	if f != (api.Fault{}) {
		return false
	}
	for _, x := range l {
		if x.Kind != 4 && !strings.HasPrefix(s[x.At:], x.S) || x.Kind == 4 && s[x.At] != '"' {
			t.Fatalf("Lex(%q): %v isn't there", s, x)
		}
	}
	if p := checkPlain(t, l); p == "" && len(l) > 0 {
		t.Fatalf("Plain of Lex(%q) is nothing", s)
	}
	return true
}

// checkPlain holds Plain of tokens against the second reading, and lexes it again; it answers it.
func checkPlain(t *testing.T, l []token.Token) string {
	t.Helper()
	p := token.Plain(l)
	if want := plained(l); p != want {
		t.Fatalf("Plain(%v) = %q, want %q", l, p, want)
	}
	if p == "" || len(p) > api.MaxBytes {
		return p
	}
	again, f := token.Lex(p)
	if f != (api.Fault{}) || !slices.Equal(placeless(again), placeless(l)) {
		t.Fatalf("Lex(Plain(%v)) = Lex(%q) = %v, %v", l, p, again, f)
	}
	if got := token.Plain(again); got != p {
		t.Fatalf("Plain of Lex of %q is %q", p, got)
	}
	return p
}

// placeless answers tokens with no places.
func placeless(l []token.Token) []token.Token {
	l = slices.Clone(l)
	for i := range l {
		l[i].At = 0
	}
	return l
}

// allRows calls what it is handed with each row of up to n of these pieces.
func allRows(n int, pieces []string, each func(s string)) {
	each("")
	rows := []string{""}
	for range n {
		var longer []string
		for _, s := range rows {
			for _, p := range pieces {
				each(s + p)
				longer = append(longer, s+p)
			}
		}
		rows = longer
	}
}
