package quote_test

import (
	"encoding/json"
	"math/rand"
	"regexp"
	"strconv"
	"strings"
	"testing"
	"unicode/utf16"
	"unicode/utf8"

	"cascade/api"
	"cascade/quote"
	"cascade/text"
)

// quoted is the rune between quotes, worked out from the document's words.
func quoted(r rune) string {
	const hex = "0123456789abcdef"
	if i := strings.IndexRune("\"\\\b\f\n\r\t", r); i >= 0 {
		return "\"\\" + "\"\\bfnrt"[i:i+1] + "\""
	}
	if r < 0x20 {
		return "\"\\u00" + hex[r/16:r/16+1] + hex[r%16:r%16+1] + "\""
	}
	return "\"" + string(r) + "\""
}

// P2.1: all runes, each alone.
func TestQuoteEveryRune(t *testing.T) {
	for r := rune(0); r <= 0x10ffff; r++ {
		if 0xd800 <= r && r <= 0xdfff {
			continue
		}
		if s, e := quote.Quote(string(r)); s != quoted(r) || e != api.OK {
			t.Fatalf("Quote(%x) = %q, %d", r, s, e)
		}
	}
}

// P2.1: by hand.
func TestQuote(t *testing.T) {
	for _, c := range []struct{ s, want string }{
		{"", `""`},
		{"a", `"a"`},
		{`"`, `"\""`},
		{`\`, `"\\"`},
		{`\"`, `"\\\""`},
		{`\u0041`, `"\\u0041"`},
		{"/", `"/"`},
		{"\b\f\n\r\t", `"\b\f\n\r\t"`},
		{"\x00\x01\x07\x0b\x0e\x0f\x10\x1a\x1b\x1f", `"\u0000\u0001\u0007\u000b\u000e\u000f\u0010\u001a\u001b\u001f"`},
		{" \x7f", "\" \x7f\""},
		{"<>&'", `"<>&'"`},
		{"\u0080\u2028\u2029\ufeff\ufffd\uffff", "\"\u0080\u2028\u2029\ufeff\ufffd\uffff\""},
		{"\u00e9\u20ac\U0001f600\U0010ffff", "\"\u00e9\u20ac\U0001f600\U0010ffff\""},
		{"a\"\\\n\x01\u20ac/", "\"a\\\"\\\\\\n\\u0001\u20ac/\""},
	} {
		if s, e := quote.Quote(c.s); s != c.want || e != api.OK {
			t.Errorf("Quote(%q) = %q, %d, want %q", c.s, s, e, c.want)
		}
	}
}

// P2.1: what is no text, wherever it stands.
func TestQuoteNoText(t *testing.T) {
	for _, bad := range []string{"\xff", "\x80", "\xc3", "\xc3\x28", "\xc0\x80", "\xe2\x82", "\xed\xa0\x80", "\xed\xa0\xbd\xed\xb8\x80", "\xf4\x90\x80\x80", "\xf0\x9f\x98"} {
		for _, s := range []string{bad, "a" + bad, bad + "a", "\ufffd" + bad, "\n\"" + bad + "\\"} {
			if got, e := quote.Quote(s); got != "" || e != api.ErrText {
				t.Errorf("Quote(%x) = %q, %d", s, got, e)
			}
		}
	}
}

type reading struct {
	s string
	n int
	e api.Errno
}

func unquote(s string) reading {
	got, n, e := quote.Unquote(s)
	return reading{got, n, e}
}

// P2.2: by hand, what is read.
func TestUnquoteReads(t *testing.T) {
	for _, c := range []struct {
		s, want string
		n       int
	}{
		{`""`, "", 2},
		{`"a"`, "a", 3},
		{`"a" `, "a", 3},
		{`"a"b"`, "a", 3},
		{"\"a\"\xff", "a", 3},
		{"\"a\"\n\\q", "a", 3},
		{`""""`, "", 2},
		{`"\u0041"x`, "A", 8},
		{`"\"\\\/\b\f\n\r\t"`, "\"\\/\b\f\n\r\t", 18},
		{`"/"`, "/", 3},
		{`"\\"`, "\\", 4},
		{`"\\""`, "\\", 4},
		{`"\\\""`, "\\\"", 6},
		{`"\u0022"`, "\"", 8},
		{`"\u005cn"`, "\\n", 9},
		{`"\u0000\u001f"`, "\x00\x1f", 14},
		{`"\uabcd\uABCD\uAbCd"`, "\uabcd\uabcd\uabcd", 20},
		{`"\u00411"`, "A1", 9},
		{`"\ud7ff\ue000\uffff\ufffd"`, "\ud7ff\ue000\uffff\ufffd", 26},
		{`"\ud800\udc00"`, "\U00010000", 14},
		{`"\udbff\udfff"`, "\U0010ffff", 14},
		{`"\uD83D\uDE00"`, "\U0001f600", 14},
		{`"a\ud83d\uDE00b\n"`, "a\U0001f600b\n", 18},
		{`"\ud83d\ude00\ud83d\ude00"`, "\U0001f600\U0001f600", 26},
		{"\"\u20ac\ufffd\x7f\u2028\"", "\u20ac\ufffd\x7f\u2028", 12},
		{"\"\ufffd\"\xff", "\ufffd", 5},
	} {
		if got := unquote(c.s); got != (reading{c.want, c.n, api.OK}) {
			t.Errorf("Unquote(%q) = %#v, want %q, %d", c.s, got, c.want, c.n)
		}
	}
}

// P2.2: by hand, what is wrong, and where.
func TestUnquoteRefuses(t *testing.T) {
	for _, c := range []struct {
		s  string
		at int
		e  api.Errno
	}{
		// no sign at the beginning
		{"", 0, api.ErrForm},
		{"x", 0, api.ErrForm},
		{" \"a\"", 0, api.ErrForm},
		{"'a'", 0, api.ErrForm},
		{"\xff", 0, api.ErrForm},
		{"\\\"", 0, api.ErrForm},
		{"\n", 0, api.ErrForm},
		// no sign at the end
		{`"`, 1, api.ErrForm},
		{`"ab`, 3, api.ErrForm},
		{`"\"`, 3, api.ErrForm},
		{`"\\\"`, 5, api.ErrForm},
		{"\"\u20ac", 4, api.ErrForm},
		{`"\u0041`, 7, api.ErrForm},
		{`"\ud83d\ude00`, 13, api.ErrForm},
		{`"\u0022`, 7, api.ErrForm},
		// runes that stand there and may not
		{"\"a\n\"", 2, api.ErrForm},
		{"\"\x00\"", 1, api.ErrForm},
		{"\"\x1f\"", 1, api.ErrForm},
		{"\"\t\"", 1, api.ErrForm},
		{"\"\r", 1, api.ErrForm},
		{"\"\u20ac\x01\xff", 4, api.ErrForm},
		// no runes
		{"\"a\xff\"", 2, api.ErrText},
		{"\"\x80", 1, api.ErrText},
		{"\"\xc3\"", 1, api.ErrText},
		{"\"\xc3", 1, api.ErrText},
		{"\"\xe2\x82", 1, api.ErrText},
		{"\"\xe2\x82\"", 1, api.ErrText},
		{"\"\xed\xa0\x80\"", 1, api.ErrText},
		{"\"\xed\xa0\xbd\xed\xb8\x80\"", 1, api.ErrText},
		{"\"\xc0\xa2\"", 1, api.ErrText},
		{"\"\xf4\x90\x80\x80\"", 1, api.ErrText},
		{"\"\xf0\x9f\x98\"", 1, api.ErrText},
		{"\"\ufffd\xff\"", 4, api.ErrText},
		{"\"\ufffd\xef\xbf", 4, api.ErrText},
		{"\"\xff\n\\q", 1, api.ErrText},
		// a backslash that nothing stands behind
		{`"\`, 1, api.ErrForm},
		{`"\q"`, 1, api.ErrForm},
		{`"\'"`, 1, api.ErrForm},
		{`"\a\v\0"`, 1, api.ErrForm},
		{`"\x41"`, 1, api.ErrForm},
		{`"\N"`, 1, api.ErrForm},
		{`"\U00000041"`, 1, api.ErrForm},
		{`"\ "`, 1, api.ErrForm},
		{"\"\\\xff\"", 1, api.ErrForm},
		{"\"\\\n\"", 1, api.ErrForm},
		{"\"\\\u20ac\"", 1, api.ErrForm},
		{`"a\\\q"`, 4, api.ErrForm},
		{`"\u"`, 1, api.ErrForm},
		{`"\u`, 1, api.ErrForm},
		{`"\u004`, 1, api.ErrForm},
		{`"\u004"`, 1, api.ErrForm},
		{`"\u004g"`, 1, api.ErrForm},
		{`"\ug041"`, 1, api.ErrForm},
		{`"\u+041"`, 1, api.ErrForm},
		{`"\u-041"`, 1, api.ErrForm},
		{`"\u0x41"`, 1, api.ErrForm},
		{`"\u0_41"`, 1, api.ErrForm},
		{`"\u 041"`, 1, api.ErrForm},
		{"\"\\u00\xff1\"", 1, api.ErrForm},
		{"\"\\u00\n1\"", 1, api.ErrForm},
		// halves that aren't both there
		{`"\ud83d"`, 1, api.ErrForm},
		{`"\ud83d`, 1, api.ErrForm},
		{`"\ude00"`, 1, api.ErrForm},
		{`"\ude00\ud83d"`, 1, api.ErrForm},
		{`"\ude00\ude00"`, 1, api.ErrForm},
		{`"\ud83d\ud83d\ude00"`, 1, api.ErrForm},
		{`"\ud83d\u0041"`, 1, api.ErrForm},
		{`"\ud83d\udbff"`, 1, api.ErrForm},
		{`"\ud83d\ue000"`, 1, api.ErrForm},
		{`"\ud83d\n"`, 1, api.ErrForm},
		{`"\ud83dude00"`, 1, api.ErrForm},
		{`"\ud83d \ude00"`, 1, api.ErrForm},
		{`"\ud83d/ude00"`, 1, api.ErrForm},
		{`"\ud83d\ude0"`, 1, api.ErrForm},
		{`"\ud83d\ude0`, 1, api.ErrForm},
		{`"\ud83d\`, 1, api.ErrForm},
		{"\"\\ud83d\xff", 1, api.ErrForm},
		{`"\ud800"`, 1, api.ErrForm},
		{`"\udbff"`, 1, api.ErrForm},
		{`"\udc00"`, 1, api.ErrForm},
		{`"\udfff"`, 1, api.ErrForm},
		{`"a\ud83d\ude00\ude00"`, 14, api.ErrForm},
	} {
		if got := unquote(c.s); got != (reading{"", c.at, c.e}) {
			t.Errorf("Unquote(%q) = %#v, want %d at %d", c.s, got, c.e, c.at)
		}
	}
}

var (
	pair   = regexp.MustCompile(`^\\u[dD][89abAB][0-9a-fA-F]{2}\\u[dD][c-fC-F][0-9a-fA-F]{2}`)
	half   = regexp.MustCompile(`^\\u[dD][89a-fA-F]`)
	number = regexp.MustCompile(`^\\u[0-9a-fA-F]{4}`)
	letter = regexp.MustCompile(`^\\["\\/bfnrt]`)
)

func hexOf(s string) rune {
	n, _ := strconv.ParseInt(s, 16, 32)
	return rune(n)
}

// behindSlash is the text that a backslash and what stands behind it tell, and its bytes, 0 if none.
func behindSlash(s string) (string, int) {
	switch {
	case pair.MatchString(s):
		return string(utf16.DecodeRune(hexOf(s[2:6]), hexOf(s[8:12]))), 12
	case half.MatchString(s):
		return "", 0
	case number.MatchString(s):
		return string(hexOf(s[2:6])), 6
	case letter.MatchString(s):
		i := strings.IndexByte(`"\/bfnrt`, s[1])
		return "\"\\/\b\f\n\r\t"[i : i+1], 2
	}
	return "", 0
}

// oracle reads as the document says, by patterns, rune by rune from the left.
func oracle(s string) reading {
	if s == "" || s[0] != 0x22 {
		return reading{"", 0, api.ErrForm}
	}
	out := ""
	for i := 1; i < len(s); {
		r, size := utf8.DecodeRuneInString(s[i:])
		piece := s[i : i+size]
		switch {
		case s[i] == 0x22:
			return reading{out, i + 1, api.OK}
		case s[i] < 0x20:
			return reading{"", i, api.ErrForm}
		case s[i] == 0x5c:
			if piece, size = behindSlash(s[i:]); size == 0 {
				return reading{"", i, api.ErrForm}
			}
		case r == utf8.RuneError && size == 1:
			return reading{"", i, api.ErrText}
		}
		out += piece
		i += size
	}
	return reading{"", len(s), api.ErrForm}
}

func checkOracle(t *testing.T, s string) {
	t.Helper()
	if got, want := unquote(s), oracle(s); got != want {
		t.Fatalf("Unquote(%q) = %#v, want %#v", s, got, want)
	}
}

// P2.2: every number of four digits, small and great, alone and behind a half.
func TestUnquoteEveryNumber(t *testing.T) {
	for n := range 0x10000 {
		digits := strconv.FormatInt(int64(n)|0x10000, 16)[1:]
		for _, d := range []string{digits, strings.ToUpper(digits)} {
			checkOracle(t, `"\u`+d+`"`)
			checkOracle(t, `"\ud83d\u`+d+`"`)
			checkOracle(t, `"\u`+d+`\udc01"`)
		}
	}
}

// P2.2: every two bytes in quotes, and every two behind a backslash.
func TestUnquoteEveryTwoBytes(t *testing.T) {
	for a := range 256 {
		checkOracle(t, string([]byte{byte(a)}))
		for b := range 256 {
			two := string([]byte{byte(a), byte(b)})
			checkOracle(t, `"`+two)
			checkOracle(t, `"`+two+`"`)
			checkOracle(t, `"\`+two+`"`)
			checkOracle(t, `"\u0`+two+`1"`)
			checkOracle(t, "\"\xef"+two+`"`)
		}
	}
}

// pieces are what rows of a quoted text's bytes are made of, right and wrong.
func pieces() []string {
	return []string{`"`, `\`, `\\`, `\"`, `\/`, `\n`, `\u`, `\u0041`, `\ud83d`, `\ude00`, `\uDBFF\uDFFF`, `u`, `d83d`, "00", "a", "\n", "\x1f", " ", "\xff", "\xe2", "\u20ac", "\ufffd", "\U0001f600"}
}

// P2.2: every row of up to three pieces.
func TestUnquoteRows(t *testing.T) {
	l := pieces()
	for _, a := range l {
		for _, b := range l {
			checkOracle(t, a+b)
			for _, c := range l {
				checkOracle(t, `"`+a+b+c)
				checkOracle(t, `"`+a+b+c+`"`)
			}
		}
	}
}

// P2.1, P2.2, P2.3: rows of many pieces; what is quoted is read, whatever stands
// behind it, and both are as the library has it.
func TestManyRows(t *testing.T) {
	l := pieces()
	rnd := rand.New(rand.NewSource(2))
	row := func(n int) string {
		s := ""
		for range rnd.Intn(n) {
			s += l[rnd.Intn(len(l))]
		}
		return s
	}
	for range 60000 {
		s := row(9)
		checkOracle(t, `"`+s+`"`)
		q, e := quote.Quote(s)
		if !text.Right(s) {
			if q != "" || e != api.ErrText {
				t.Fatalf("Quote(%q) = %q, %d", s, q, e)
			}
			continue
		}
		if e != api.OK {
			t.Fatalf("Quote(%q) = %d", s, e)
		}
		if got := unquote(q + row(4)); got != (reading{s, len(q), api.OK}) {
			t.Fatalf("Unquote(Quote(%q)) = %#v", s, got)
		}
		var other string
		if err := json.Unmarshal([]byte(q), &other); err != nil || other != s {
			t.Fatalf("Quote(%q) = %q: %v", s, q, err)
		}
	}
}

// P2.3: every rune comes again, with each of these behind it.
func TestReadAgain(t *testing.T) {
	for r := rune(0); r <= 0x10ffff; r++ {
		if 0xd800 <= r && r <= 0xdfff {
			continue
		}
		s := string([]rune{r, r})
		q, _ := quote.Quote(s)
		for _, behind := range []string{"", `"`, "\xff", `\`, "\n"} {
			if got := unquote(q + behind); got != (reading{s, len(q), api.OK}) {
				t.Fatalf("Unquote(%q) = %#v", q+behind, got)
			}
		}
	}
}

// R1: long ones end, and soon.
func TestLong(t *testing.T) {
	for _, piece := range []string{"\ufffd", "a", `\`, `"`, "\x00", "\U0001f600"} {
		s := strings.Repeat(piece, 1<<19)
		q, e := quote.Quote(s)
		if e != api.OK {
			t.Fatalf("Quote of many %q: %d", piece, e)
		}
		if got := unquote(q); got != (reading{s, len(q), api.OK}) {
			t.Fatalf("Unquote of many %q: %d, %d", piece, got.n, got.e)
		}
	}
}
