package token_test

import (
	"math/rand"
	"slices"
	"strconv"
	"strings"
	"testing"
	"unsafe"

	"cascade/api"
	"cascade/token"
)

const (
	row   = `"""`
	slash = `\`
)

// wanted is a text, and its tokens.
type wanted struct {
	s    string
	want []token.Token
}

func checkWanted(t *testing.T, cases []wanted) {
	t.Helper()
	for _, c := range cases {
		if l, f := token.Lex(c.s); !slices.Equal(l, c.want) || f != (api.Fault{}) {
			t.Errorf("Lex(%q) = %v, %v, want %v", c.s, l, f, c.want)
		}
		checkLex(t, c.s)
	}
}

// P8.1: signs and names, by hand.
func TestLexSignsAndNames(t *testing.T) {
	checkWanted(t, []wanted{
		{"{a(b:-2)}", []token.Token{{1, "{", 0}, {2, "a", 1}, {1, "(", 2}, {2, "b", 3}, {1, ":", 4}, {3, "-2", 5}, {1, ")", 7}, {1, "}", 8}}},
		{"!$&():=@[]{|}...", []token.Token{
			{1, "!", 0}, {1, "$", 1}, {1, "&", 2}, {1, "(", 3}, {1, ")", 4}, {1, ":", 5}, {1, "=", 6}, {1, "@", 7},
			{1, "[", 8}, {1, "]", 9}, {1, "{", 10}, {1, "|", 11}, {1, "}", 12}, {1, "...", 13},
		}},
		{"......", []token.Token{{1, "...", 0}, {1, "...", 3}}},
		{"... ...", []token.Token{{1, "...", 0}, {1, "...", 4}}},
		{"...5", []token.Token{{1, "...", 0}, {3, "5", 3}}},
		{"a...b", []token.Token{{2, "a", 0}, {1, "...", 1}, {2, "b", 4}}},
		{"{{!!", []token.Token{{1, "{", 0}, {1, "{", 1}, {1, "!", 2}, {1, "!", 3}}},
		{"_", []token.Token{{2, "_", 0}}},
		{"aZ_09 Az_ __9", []token.Token{{2, "aZ_09", 0}, {2, "Az_", 6}, {2, "__9", 10}}},
		{"a-1", []token.Token{{2, "a", 0}, {3, "-1", 1}}},
		{`a"b"`, []token.Token{{2, "a", 0}, {4, "b", 1}}},
		{"null true on e5", []token.Token{{2, "null", 0}, {2, "true", 5}, {2, "on", 10}, {2, "e5", 13}}},
	})
}

// P8.1: numbers, by hand.
func TestLexNumbers(t *testing.T) {
	checkWanted(t, []wanted{
		{"0", []token.Token{{3, "0", 0}}},
		{"10 -10 7 -1", []token.Token{{3, "10", 0}, {3, "-10", 3}, {3, "7", 7}, {3, "-1", 9}}},
		{"1234567890 -9876543210", []token.Token{{3, "1234567890", 0}, {3, "-9876543210", 11}}},
		{"9007199254740991", []token.Token{{3, "9007199254740991", 0}}},
		{"-9007199254740991", []token.Token{{3, "-9007199254740991", 0}}},
		{"0-1", []token.Token{{3, "0", 0}, {3, "-1", 1}}},
		{"1-2-3", []token.Token{{3, "1", 0}, {3, "-2", 1}, {3, "-3", 3}}},
		{"0{0", []token.Token{{3, "0", 0}, {1, "{", 1}, {3, "0", 2}}},
		{`1"a"`, []token.Token{{3, "1", 0}, {4, "a", 1}}},
		{"1 a", []token.Token{{3, "1", 0}, {2, "a", 2}}},
		{"1,a", []token.Token{{3, "1", 0}, {2, "a", 2}}},
		{"0 1", []token.Token{{3, "0", 0}, {3, "1", 2}}},
		{"1\r_", []token.Token{{3, "1", 0}, {2, "_", 2}}},
		{"1 ...", []token.Token{{3, "1", 0}, {1, "...", 2}}},
		{"1#\n...", []token.Token{{3, "1", 0}, {1, "...", 3}}},
		{"1#a", []token.Token{{3, "1", 0}}},
	})
}

// P8.1: quoted texts, by hand.
func TestLexQuoted(t *testing.T) {
	checkWanted(t, []wanted{
		{`""`, []token.Token{{4, "", 0}}},
		{`"" "a"`, []token.Token{{4, "", 0}, {4, "a", 3}}},
		{`""a`, []token.Token{{4, "", 0}, {2, "a", 2}}},
		{`"a"b`, []token.Token{{4, "a", 0}, {2, "b", 3}}},
		{`"a""b"`, []token.Token{{4, "a", 0}, {4, "b", 3}}},
		{`"a"""`, []token.Token{{4, "a", 0}, {4, "", 3}}},
		{`"a"""""b"""`, []token.Token{{4, "a", 0}, {4, `"b`, 3}}},
		{`"\"\\\/\b\f\n\r\t\u0041"`, []token.Token{{4, "\"\\/\b\f\n\r\tA", 0}}},
		{`{"\ud83d\ude00"`, []token.Token{{1, "{", 0}, {4, "\U0001f600", 1}}},
		{`"\u0000"`, []token.Token{{4, "\x00", 0}}},
		{`"# a"a`, []token.Token{{4, "# a", 0}, {2, "a", 5}}},
		{`", -0 .."`, []token.Token{{4, ", -0 ..", 0}}},
		{"\"\u20ac\x7f\ufffd\"a", []token.Token{{4, "\u20ac\x7f\ufffd", 0}, {2, "a", 9}}},
	})
}

// P8.1: raw texts, by hand.
func TestLexRaw(t *testing.T) {
	checkWanted(t, []wanted{
		{row + row, []token.Token{{4, "", 0}}},
		{row + "a" + row, []token.Token{{4, "a", 0}}},
		{row + "\n  a\n    b\n  " + row + "c", []token.Token{{4, "a\n  b", 0}, {2, "c", 19}}},
		{row + " a\t\r\n b\r c" + row, []token.Token{{4, " a\t\nb\nc", 0}}},
		{row + `\n\u0041\q\" ` + row, []token.Token{{4, `\n\u0041\q\" `, 0}}},
		{row + "# a" + row + "a", []token.Token{{4, "# a", 0}, {2, "a", 9}}},
		{row + `a" ""b` + row, []token.Token{{4, `a" ""b`, 0}}},
		{row + "\u20ac\x7f\ufffd" + row + "a", []token.Token{{4, "\u20ac\x7f\ufffd", 0}, {2, "a", 13}}},
		{"{" + row + "a" + row + ":" + row + "b" + row, []token.Token{{1, "{", 0}, {4, "a", 1}, {1, ":", 8}, {4, "b", 9}}},
		// rows that a sign 5c stands ahead of
		{row + slash + row + row, []token.Token{{4, row, 0}}},
		{row + "a" + slash + row + "b" + row, []token.Token{{4, "a" + row + "b", 0}}},
		{row + slash + row + slash + row + row, []token.Token{{4, row + row, 0}}},
		{row + slash + slash + row + row, []token.Token{{4, slash + row, 0}}},
		{row + slash + " " + row, []token.Token{{4, slash + " ", 0}}},
		{row + slash + `"" ` + row, []token.Token{{4, slash + `"" `, 0}}},
		// more than three signs 22 in a row
		{row + `"a` + row, []token.Token{{4, `"a`, 0}}},
		{row + `""a` + row, []token.Token{{4, `""a`, 0}}},
		{row + row + `""`, []token.Token{{4, "", 0}, {4, "", 6}}},
		{row + row + `"b"`, []token.Token{{4, "", 0}, {4, "b", 6}}},
		{row + row + row + row, []token.Token{{4, "", 0}, {4, "", 6}}},
		{row + "a" + row + `""`, []token.Token{{4, "a", 0}, {4, "", 7}}},
		{row + "a" + row + `"b"`, []token.Token{{4, "a", 0}, {4, "b", 7}}},
		{row + "a" + row + row + "b" + row, []token.Token{{4, "a", 0}, {4, "b", 7}}},
		{row + slash + row + row + `""`, []token.Token{{4, row, 0}, {4, "", 10}}},
		{row + slash + row + `"a` + row, []token.Token{{4, row + `"a`, 0}}},
	})
}

// P8.1: what stands between tokens, by hand.
func TestLexBetween(t *testing.T) {
	checkWanted(t, []wanted{
		{"", nil},
		{" \t\r\n,", nil},
		{",a,,b,", []token.Token{{2, "a", 1}, {2, "b", 4}}},
		{"\ta \r\n b", []token.Token{{2, "a", 1}, {2, "b", 6}}},
		{"#", nil},
		{"# a", nil},
		{"a# b", []token.Token{{2, "a", 0}}},
		{"#a\nb", []token.Token{{2, "b", 3}}},
		{"#a\rb", []token.Token{{2, "b", 3}}},
		{"#a\r\nb", []token.Token{{2, "b", 4}}},
		{"#a\n\rb", []token.Token{{2, "b", 4}}},
		{"##\n#\n#b\nc#", []token.Token{{2, "c", 8}}},
		{"#" + row + "\na", []token.Token{{2, "a", 5}}},
		{"#\"\x00?\x1f\x0b\x0c\u0085\u2028\u20ac a\nb", []token.Token{{2, "b", 18}}},
	})
}

// refused is what Lex should have a fault for.
type refused struct {
	s  string
	at int
}

func checkRefused(t *testing.T, e api.Errno, cases []refused) {
	t.Helper()
	for _, c := range cases {
		if l, f := token.Lex(c.s); len(l) != 0 || f != (api.Fault{E: e, At: c.at}) {
			t.Errorf("Lex(%q) = %v, %v, want %d at %d", c.s, l, f, e, c.at)
		}
		checkLex(t, c.s)
	}
}

// P8.1: bytes that begin no token.
func TestLexNoToken(t *testing.T) {
	checkRefused(t, api.ErrToken, []refused{
		{"?", 0}, {"a ?", 2}, {"a?", 1}, {"{a}\n;", 4}, {"'a'", 0}, {"<", 0}, {">", 0}, {"%", 0}, {"*", 0}, {"+1", 0},
		{"/", 0}, {"\\", 0}, {"^", 0}, {"`", 0}, {"~", 0}, {"a\x00", 1}, {"\x08", 0}, {"\x0b", 0}, {"\x0c", 0}, {"\x1f", 0}, {"\x7f", 0},
		{"\u00a0", 0}, {"\u0085", 0}, {"a\u2028b", 1}, {"\ufeffa", 0}, {"a\u00e9", 1}, {"\u00e9a", 0}, {"\u0660", 0}, {"\U0001f600", 0}, {"\ufffd", 0},
		// points
		{".", 0}, {"..", 0}, {". ..", 0}, {".. .", 0}, {"a.", 1}, {"a.b", 1}, {"a..", 1}, {"....", 3}, {".....", 3}, {"... .", 4}, {".5", 0}, {".#.", 0},
		// a sign - that no number follows
		{"-", 0}, {"--1", 0}, {"- 1", 0}, {"-a", 0}, {"-.5", 0}, {"a -", 2}, {"1-", 1}, {"1--2", 1}, {"-\n1", 0}, {"-\"1\"", 0},
	})
}

// P8.1: numbers that may not be, and what may not stand behind one.
func TestLexWrongNumbers(t *testing.T) {
	checkRefused(t, api.ErrToken, []refused{
		{"9007199254740992", 0}, {"-9007199254740992", 0}, {"a 9007199254740992", 2}, {"[1,-9007199254740992]", 3},
		{"10000000000000000", 0}, {"9223372036854775807", 0}, {"9223372036854775808", 0}, {"-9223372036854775808", 0},
		{"18446744073709551616", 0}, {"18446744073709551617", 0}, {"1" + strings.Repeat("0", 3999), 0}, {"-" + strings.Repeat("9", 3999), 0},
		{"-0", 0}, {"a(-0)", 2}, {"-00", 0}, {"-01", 0}, {"-0a", 0}, {"-0.5", 0}, {"-0-1", 0},
		// a digit, a letter, a point
		{"00", 1}, {"01", 1}, {"0123", 1}, {"09", 1}, {"1a", 1}, {"1A", 1}, {"1z", 1}, {"1Z", 1}, {"1_", 1}, {"0x1", 1}, {"-1e5", 2}, {"12e", 2},
		{"1.5", 1}, {"1.", 1}, {"0.5", 1}, {"1..", 1}, {"1...", 1}, {"-12...a", 3}, {"a:-1b", 4},
		{"9007199254740991a", 16}, {"-9007199254740991.", 17},
		// a number that may not be is met ahead of what stands behind it
		{"9007199254740992a", 0}, {"9007199254740992.", 0}, {"-0_", 0},
		// something else that begins no token
		{"1?", 1}, {"1\u00e9", 1},
	})
}

// P8.1: quoted texts that layer 2 refuses, with their places.
func TestLexWrongQuoted(t *testing.T) {
	checkRefused(t, api.ErrToken, []refused{
		{`"`, 1}, {`"a`, 2}, {`a"b`, 3}, {"a \"\u20ac", 6}, {`"\"`, 3}, {`"a" "b`, 6}, {`"""a""""`, 8},
		{"\"a\nb\"", 2}, {"\"\r\"", 1}, {"\"\t\"", 1}, {"\"\x00\"", 1}, {"a\"b\x1f\"", 3},
		{`"\q"`, 1}, {`"ab\q"`, 3}, {`{"ab\q"`, 4}, {`"\u00g1"`, 1}, {`"\x41"`, 1}, {`"\ud83d"`, 1}, {`"\ud83d\u0041"`, 1}, {`"a\ude00"`, 2}, {`"\`, 1}, {`"\u004`, 1},
		{"#\n\"a\\", 4}, {"\"a\n\\q", 2}, {"\"\\q\n", 1},
	})
}

// P8.1: raw texts without an end, and with runes that may not be in them.
func TestLexWrongRaw(t *testing.T) {
	checkRefused(t, api.ErrToken, []refused{
		{row, 0}, {row + "a", 0}, {"a " + row, 2}, {row + `"`, 0}, {row + `""`, 0}, {row + `a"`, 0}, {row + `a""`, 0},
		{row + slash + row, 0}, {row + "a" + slash + row, 0}, {row + slash + row + `""`, 0}, {row + slash + row + slash + row, 0},
		{row + slash + slash + row, 0}, {row + slash + `"`, 0}, {row + "\n\n", 0}, {row + `a"" "`, 0}, {row + row + row, 6},
		{row + "a" + row + row, 7}, {row + "a" + row + " " + row, 8},
		{row + "\x00" + row, 0}, {row + "\x08" + row, 0}, {row + "\x0b" + row, 0}, {row + "\x0c" + row, 0}, {row + "\x0e" + row, 0}, {row + "\x1f" + row, 0},
		{"a\n" + row + "b\n\x01c" + row, 2}, {row + "a\x01", 0}, {row + slash + row + "\x01" + row, 0},
		{row + "\x01" + row + "?", 0},
		// behind the end it is another thing
		{row + "a" + row + "\x01", 7}, {row + row + "?", 6}, {row + row + `"`, 7},
	})
}

// P8.1: bytes at which no rune begins are told ahead of all but a text that is too long.
func TestLexNoText(t *testing.T) {
	checkRefused(t, api.ErrText, []refused{
		{"\xff", 0}, {"a\xff", 1}, {"\x80", 0}, {"a\xc3(", 1}, {"\xe2\x82", 0}, {"\xed\xa0\x80", 0}, {"\xf4\x90\x80\x80", 0}, {"\xc0\x80", 0}, {"\xf0\x9f\x98", 0},
		{"#\xff", 1}, {"\"\xff\"", 1}, {row + "\xff" + row, 3}, {"\ufffd\xff", 3}, {"\xff\xfe", 0}, {"a\xffb\xfe", 1},
		// behind what is wrong, too
		{"?\xff", 1}, {"-0 \xff", 3}, {"1a\xff", 2}, {"\"\n\xff", 2}, {row + "\x01\xff", 4}, {"\"a\xc3\"", 2}, {"..\xff", 2},
		{strings.Repeat("{", 901) + "\xff", 901}, {strings.Repeat("{", 3999) + "\xff", 3999},
	})
}

// P8.1: at most MaxBytes bytes, whatever they are.
func TestLexBytes(t *testing.T) {
	long := strings.Repeat("a", 4000)
	checkWanted(t, []wanted{
		{long, []token.Token{{2, long, 0}}},
		{strings.Repeat(" ", 4000), nil},
		{"#" + strings.Repeat("\u20ac", 1333), nil},
		{`"` + long[2:] + `"`, []token.Token{{4, long[2:], 0}}},
		{row + long[6:] + row, []token.Token{{4, long[6:], 0}}},
		{strings.Repeat(",", 3999) + "!", []token.Token{{1, "!", 3999}}},
	})
	for _, s := range []string{
		long + "a", long + " ", strings.Repeat(" ", 4001), "#" + long, `"` + long, strings.Repeat("{", 4001),
		long + "\xff", "\xff" + long, strings.Repeat("\xff", 4001), strings.Repeat("?", 4001), "1a" + long, strings.Repeat("\u20ac", 1334),
		strings.Repeat("\xff", 1<<20), strings.Repeat(row, 1<<20),
	} {
		if l, f := token.Lex(s); len(l) != 0 || f != (api.Fault{E: api.ErrLong}) {
			t.Errorf("Lex of %d bytes: %d tokens, %v", len(s), len(l), f)
		}
	}
	checkRefused(t, api.ErrToken, []refused{{long[1:] + "?", 3999}, {`"` + long[1:], 4000}, {row + long[3:], 0}})
}

// P8.1: at most MaxTokens tokens, whatever they are, and what may stand behind the last one.
func TestLexTokens(t *testing.T) {
	for _, one := range []string{"{", "...", "a ", "-1 ", `""` + " ", "!#\n"} {
		many := strings.Repeat(one, 900)
		if l, f := token.Lex(many); len(l) != 900 || f != (api.Fault{}) {
			t.Errorf("Lex of 900 of %q: %d tokens, %v", one, len(l), f)
		}
		for _, behind := range []string{"", " ", ",", "\n", "#", "# a ?", " \t\r\n,#a\n#b\r"} {
			if l, f := token.Lex(many + behind); len(l) != 900 || f != (api.Fault{}) {
				t.Errorf("Lex of 900 of %q and %q: %d tokens, %v", one, behind, len(l), f)
			}
			checkLex(t, many+behind)
			if strings.HasPrefix(behind, "#") && !strings.HasSuffix(behind, "\r") {
				continue
			}
			// whether what stands there is a token isn't asked any more
			for _, more := range []string{"!", "a", "0", `""`, "?", "..", "-0", "01", `"`, row, "\x00", "\u20ac"} {
				s := many + behind + more
				if l, f := token.Lex(s); len(l) != 0 || f != (api.Fault{E: api.ErrLong, At: len(many + behind)}) {
					t.Errorf("Lex of 900 of %q and %q: %d tokens, %v", one, behind+more, len(l), f)
				}
				checkLex(t, s)
			}
		}
	}
	// what is wrong further left is met first
	few := strings.Repeat("{", 899)
	checkRefused(t, api.ErrToken, []refused{{few + "?{{", 899}, {few + "-0{", 899}, {few[1:] + "1a{{", 899}, {few + row + "{", 899}, {few + `"{`, 901}, {"?" + few + few, 0}})
	checkRefused(t, api.ErrLong, []refused{{few + "{{?", 900}, {few + "1 a", 901}, {few + `""` + "?", 901}, {few + "......", 902}})
	// a letter right behind the last number is what stands behind MaxTokens tokens, which is named first
	checkRefused(t, api.ErrLong, []refused{{few + "1a", 900}, {few + "-1.", 901}, {few + "01", 900}})
}

// P8.1: each byte, and each two, alone, behind and ahead of others.
func TestLexEveryTwoBytes(t *testing.T) {
	for a := range 256 {
		one := string([]byte{byte(a)})
		for _, s := range []string{one, "a" + one, one + "a", "1" + one, "-" + one, one + "1", "0" + one, "#" + one + "?", `"` + one, row + one + row, row + "a" + one + row, `""` + one, `"\` + one + `"`} {
			checkLex(t, s)
		}
		for b := range 256 {
			two := one + string([]byte{byte(b)})
			for _, s := range []string{two, "a " + two, "1" + two, `"` + two + `"`, row + two + row, ".." + two} {
				checkLex(t, s)
			}
		}
	}
}

// P8.1: each rune alone, in a quoted text, in a raw one, in a remark.
func TestLexEveryRune(t *testing.T) {
	for r := rune(0x80); r <= 0x10ffff; r++ {
		if 0xd800 <= r && r <= 0xdfff {
			continue
		}
		s := string(r)
		if _, f := token.Lex("1" + s); f != (api.Fault{E: api.ErrToken, At: 1}) {
			t.Fatalf("Lex of 1 and %x: %v", r, f)
		}
		l, f := token.Lex(`"` + s + `"` + row + s + row + "#" + s + "\na")
		want := []token.Token{{4, s, 0}, {4, s, 2 + len(s)}, {2, "a", 10 + 3*len(s)}}
		if !slices.Equal(l, want) || f != (api.Fault{}) {
			t.Fatalf("Lex of %x: %v, %v, want %v", r, l, f, want)
		}
	}
}

// P8.1: rows of few pieces, all of them.
func TestLexRows(t *testing.T) {
	lexed, refused := 0, 0
	each := func(s string) {
		if checkLex(t, s) {
			lexed++
			return
		}
		refused++
	}
	allRows(4, []string{"{", ".", "..", "a", "_", "0", "1", "9", "-", `"`, row, slash, " ", ",", "#", "\n", "\r", "\x00", "\u20ac", "\xff", "?"}, each)
	allRows(11, []string{`"`, slash, "a"}, each)
	allRows(9, []string{`"`, row, slash + row, "\n"}, each)
	allRows(7, []string{"0", "1", "-", ".", "a", " "}, each)
	allRows(7, []string{"#", "\n", "\r", "a", ",", `"`}, each)
	if lexed < 10000 || refused < 10000 {
		t.Errorf("%d were lexed, %d were refused", lexed, refused)
	}
}

// P8.1: numbers about the limits, and of many digits.
func TestLexNumbersAboutLimits(t *testing.T) {
	for d := int64(-1000); d <= 1000; d++ {
		for _, n := range []int64{0, 1 << 31, 1 << 32, 1e15, 1e16, 1<<53 - 1, 1 << 54, 1<<63 - 1001} {
			for _, minus := range []string{"", "-"} {
				s := minus + strconv.FormatInt(n+d, 10)
				l, f := token.Lex("a " + s)
				fits := n+d <= 9007199254740991 && n+d >= 0 && (minus == "" || n+d > 0) || n+d < 0 && minus == ""
				if fits && (f != (api.Fault{}) || !slices.Equal(l, []token.Token{{2, "a", 0}, {3, s, 2}})) || !fits && (len(l) != 0 || f != (api.Fault{E: api.ErrToken, At: 2})) {
					t.Fatalf("Lex of %s: %v, %v", s, l, f)
				}
			}
		}
	}
	for n := 17; n < 3000; n += 7 {
		checkRefused(t, api.ErrToken, []refused{{strings.Repeat("1", n), 0}, {" -" + strings.Repeat("8", n), 1}})
	}
}

// pieces are what texts are made of by chance.
func pieces() []string {
	return []string{
		"!", "$", "&", "(", ")", ":", "=", "@", "[", "]", "{", "|", "}", "...",
		"a", "query", "_x9", "on", "Z", "0", "7", "-1", "9007199254740991", "-9007199254740991", "120",
		`""`, `"a"`, `"\u0041\n"`, `"\""`, "\"\u20ac\"", `"#"`, row + row, row + "\n a\n  b\n" + row, row + slash + row + row, row + `"" a` + row, row + "\r\n\t\x7f" + row,
	}
}

// betweens are what may stand between tokens; none of them ends within a remark.
func betweens() []string {
	return []string{" ", "\t", "\n", "\r", "\r\n", ",", "#\n", "# a\r", "#\"\"\"?\r\n", " ,\t", "#\u20ac\x00\n", "##-0\n\n"}
}

// wrongs are what can't stand in a text, or may not behind some.
func wrongs() []string {
	return []string{".", "..", "?", "-", "-0", "01", "1a", "1.", "9007199254740992", `"`, `"\q"`, "\"\n\"", row, row + "\x01" + row, "\u20ac", "\x00", "\xff", "#", slash}
}

// P8.1, P8.3: texts by chance: what stands between tokens changes none but for the places.
func TestLexByChance(t *testing.T) {
	r := rand.New(rand.NewSource(1))
	some := func(l []string) string { return l[r.Intn(len(l))] }
	for range 15000 {
		var thin, thick, bare strings.Builder
		for range r.Intn(30) {
			p := some(pieces())
			thin.WriteString(" " + p)
			for range 1 + r.Intn(3) {
				thick.WriteString(some(betweens()))
			}
			thick.WriteString(p)
			bare.WriteString(p)
		}
		l, f := token.Lex(thin.String())
		m, g := token.Lex(thick.String())
		if f != (api.Fault{}) || g != f || !slices.Equal(placeless(l), placeless(m)) {
			t.Fatalf("Lex of %q: %v, %v; of %q: %v, %v", thin.String(), l, f, thick.String(), m, g)
		}
		checkLex(t, thin.String())
		checkLex(t, thick.String())
		checkLex(t, thick.String()+some(betweens()))
		checkLex(t, bare.String())
		wrong := thick.String() + some(wrongs()) + bare.String()
		checkLex(t, wrong)
		checkLex(t, wrong[:r.Intn(len(wrong)+1)])
	}
}

// P8.1: texts about MaxTokens tokens and MaxBytes bytes, by chance.
func TestLexLongByChance(t *testing.T) {
	r := rand.New(rand.NewSource(2))
	short := []string{"!", "{", "a ", "1 ", "-2,", "...", `""` + " ", "#\n", " ", "\r\n", "b\t", "#a\n!"}
	full := 0
	for range 1500 {
		var b strings.Builder
		for range 880 + r.Intn(600) {
			b.WriteString(short[r.Intn(len(short))])
			if r.Intn(20000) == 0 {
				b.WriteString(wrongs()[r.Intn(len(wrongs()))])
			}
		}
		if !checkLex(t, b.String()) {
			full++
		}
	}
	if full < 150 || full > 1350 {
		t.Errorf("%d of 1500 were refused", full)
	}
}

// shared tells whether two strings have bytes in common memory.
func shared(a, b string) bool {
	if a == "" || b == "" {
		return false
	}
	from, to := uintptr(unsafe.Pointer(unsafe.StringData(a))), uintptr(unsafe.Pointer(unsafe.StringData(b)))
	return from < to+uintptr(len(b)) && to < from+uintptr(len(a))
}

// R5: what is answered is new memory.
func TestMemory(t *testing.T) {
	s := strings.Clone(strings.Join(pieces(), " "))
	l, f := token.Lex(s)
	if f != (api.Fault{}) {
		t.Fatal(f)
	}
	for _, x := range l {
		if shared(x.S, s) {
			t.Errorf("%v shares memory with the text", x)
		}
	}
	m, _ := token.Lex(s)
	m[0] = token.Token{}
	if again, _ := token.Lex(s); !slices.Equal(again, l) {
		t.Errorf("Lex of one text is %v, then %v", l, again)
	}
	for _, x := range l[:3] {
		one := []token.Token{{x.Kind, strings.Clone(x.S), 0}}
		if p := token.Plain(one); shared(p, one[0].S) {
			t.Errorf("Plain of %v shares memory with it", one)
		}
	}
	room := slices.Clone(l)
	token.Plain(room[:2])
	if !slices.Equal(room, l) {
		t.Errorf("Plain changed what it was given: %v", room)
	}
}
