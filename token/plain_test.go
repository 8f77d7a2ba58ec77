package token_test

import (
	"math"
	"slices"
	"strings"
	"testing"

	"cascade/api"
	"cascade/token"
)

// P8.2: by hand.
func TestPlain(t *testing.T) {
	for _, c := range []struct {
		l    []token.Token
		want string
	}{
		{nil, ""},
		{[]token.Token{}, ""},
		{[]token.Token{{1, "{", 0}}, "{"},
		{[]token.Token{{1, "...", 0}}, "..."},
		{[]token.Token{{1, "!", 0}, {1, "$", 0}, {1, "&", 0}, {1, "(", 0}, {1, ")", 0}, {1, ":", 0}, {1, "=", 0}}, "! $ & ( ) : ="},
		{[]token.Token{{1, "@", 0}, {1, "[", 0}, {1, "]", 0}, {1, "{", 0}, {1, "|", 0}, {1, "}", 0}, {1, "...", 0}}, "@ [ ] { | } ..."},
		{[]token.Token{{2, "a", 0}, {2, "_", 0}, {2, "Z_9", 0}, {2, "null", 0}}, "a _ Z_9 null"},
		{[]token.Token{{3, "0", 0}, {3, "10", 0}, {3, "-1", 0}, {3, "9007199254740991", 0}, {3, "-9007199254740991", 0}}, "0 10 -1 9007199254740991 -9007199254740991"},
		{[]token.Token{{3, "1", 0}, {2, "a", 0}, {1, "...", 0}, {3, "0", 0}, {3, "1", 0}}, "1 a ... 0 1"},
		{[]token.Token{{4, "", 0}}, `""`},
		{[]token.Token{{4, "", 0}, {4, "", 0}, {4, "a", 0}}, `"" "" "a"`},
		{[]token.Token{{4, "q\n", 0}, {4, "\"\\/\x00\u20ac\x7f", 0}, {4, row, 0}}, `"q\n" "\"\\/\u0000` + "\u20ac\x7f" + `" "\"\"\""`},
		{[]token.Token{{4, "-0", 0}, {4, "a b", 0}, {4, "?", 0}}, `"-0" "a b" "?"`},
		// places are nothing to it
		{[]token.Token{{1, "{", -1}, {2, "a", math.MaxInt}, {4, "b", math.MinInt}}, `{ a "b"`},
		{[]token.Token{{2, "b", 9}, {2, "a", 3}}, "b a"},
	} {
		if got := token.Plain(c.l); got != c.want {
			t.Errorf("Plain(%v) = %q, want %q", c.l, got, c.want)
		}
		checkPlain(t, c.l)
	}
}

// P8.2: what may not be, alone, and first, last and in the middle of others.
func TestPlainWrong(t *testing.T) {
	good := []token.Token{{1, "...", 0}, {2, "a", 0}, {3, "-2", 0}, {4, "\n", 0}}
	for kind, l := range map[int][]string{
		1: {"", ".", "..", "....", "......", "!!", "{}", "{ ", " {", "a", "0", "-", `"`, `""`, row, row + row, "#", ",", " ", "\n", "?", "+", "/", "\x00", "\xff", "\u20ac", "...\xff", "\u2026"},
		2: {"", " ", "a b", "a ", " a", "a-b", "a.b", "a.", "9", "9a", "-a", "$a", "a!", "a\n", "\u00e9", "a\u00e9", "a\xff", "\xff", "a\x00", "{", "...", `""`, `"a"`, "#a", "a#", "a,"},
		3: {"", "-", "--1", "+1", "00", "01", "-01", "-0", "-00", "1 ", " 1", "- 1", "1a", "1_", "1.", "1.5", "1e5", "0x1", "a", "9007199254740992", "-9007199254740992", "18446744073709551617",
			"1" + strings.Repeat("0", 5000), "1-", "1-1", "1,", "1#", "1\n", "\u0661", "1\xff", "1\x00", "{", `"1"`, `1"`},
		4: {"\xff", "a\xff", "\xffa", "\xc3", "\xed\xa0\x80", "\xf4\x90\x80\x80", "\xc0\x80", "\ufffd\xe2\x82"},
	} {
		for _, s := range l {
			checkNotPlain(t, token.Token{Kind: kind, S: s}, good)
		}
	}
	for _, kind := range []int{0, -1, 5, 6, 1 << 32, math.MinInt, math.MaxInt, 257, -4} {
		for _, s := range []string{"", "{", "...", "a", "1", `""`, "\n", "\xff"} {
			checkNotPlain(t, token.Token{Kind: kind, S: s}, good)
		}
	}
}

func checkNotPlain(t *testing.T, x token.Token, good []token.Token) {
	t.Helper()
	if got := token.Plain([]token.Token{x}); got != "" {
		t.Errorf("Plain(%v) = %q", x, got)
	}
	for i := range len(good) + 1 {
		if got := token.Plain(slices.Insert(slices.Clone(good), i, x)); got != "" {
			t.Errorf("Plain with %v at %d = %q", x, i, got)
		}
	}
	if want := plained([]token.Token{x}); want != "" {
		t.Errorf("the second reading of %v is %q", x, want)
	}
}

// P8.2, P8.3: each S of few pieces, of each kind.
func TestPlainRows(t *testing.T) {
	allRows(4, []string{"{", "!", ".", "a", "Z", "_", "0", "9", "-", `"`, slash, " ", ",", "#", "\n", "\x00", "\x7f", "\u20ac", "\xff"}, func(s string) {
		for kind := range 6 {
			checkPlain(t, []token.Token{{kind, s, 7}})
		}
	})
	for b := range 256 {
		c := string([]byte{byte(b)})
		for _, s := range []string{c, "a" + c, "1" + c, "-" + c, c + "1", "a" + c + "b", "..." + c, ".." + c} {
			for kind := range 6 {
				checkPlain(t, []token.Token{{1, "(", 0}, {kind, s, 7}})
			}
		}
	}
}

// P8.2: more than a text may have is plain, too, and soon.
func TestPlainLong(t *testing.T) {
	const n = 1 << 19
	if got, want := token.Plain(slices.Repeat([]token.Token{{2, "a", 0}}, n)), strings.Repeat("a ", n-1)+"a"; got != want {
		t.Errorf("Plain of %d names has %d bytes", n, len(got))
	}
	long := strings.Repeat("a", n)
	if got, want := token.Plain([]token.Token{{2, long, 0}, {4, long, 0}}), long+` "`+long+`"`; got != want {
		t.Errorf("Plain of two long tokens has %d bytes", len(got))
	}
	if l, f := token.Lex(token.Plain(slices.Repeat([]token.Token{{1, "{", 0}}, 901))); len(l) != 0 || f != (api.Fault{E: api.ErrLong, At: 1800}) {
		t.Errorf("Lex of 901 plain tokens: %d, %v", len(l), f)
	}
}
