package text_test

import (
	"slices"
	"strings"
	"testing"

	"cascade/api"
	"cascade/text"
)

// sizeAt answers how many bytes the whole rune at the beginning of s takes, 0 if there is none.
// It is worked out from the document's words on bytes, not by the library, so that both are held against each other.
func sizeAt(s string) int {
	n, low, least := 0, rune(0), rune(0)
	switch b := s[0]; {
	case b <= 0x7f:
		return 1
	case b>>5 == 0x6:
		n, low, least = 2, rune(b&0x1f), 0x80
	case b>>4 == 0xe:
		n, low, least = 3, rune(b&0xf), 0x800
	case b>>3 == 0x1e:
		n, low, least = 4, rune(b&0x7), 0x10000
	default:
		return 0
	}
	if len(s) < n {
		return 0
	}
	for i := 1; i < n; i++ {
		if s[i]>>6 != 2 {
			return 0
		}
		low = low<<6 | rune(s[i]&0x3f)
	}
	if low < least || low > 0x10ffff || 0xd800 <= low && low <= 0xdfff {
		return 0
	}
	return n
}

// badOf is Bad by sizeAt, and how many runes stand ahead.
func badOf(s string) (int, int) {
	n := 0
	for i := 0; i < len(s); n++ {
		size := sizeAt(s[i:])
		if size == 0 {
			return i, n
		}
		i += size
	}
	return -1, n
}

func checkBytes(t *testing.T, s string) {
	t.Helper()
	want, n := badOf(s)
	if got := text.Bad(s); got != want {
		t.Fatalf("Bad(%x) = %d, want %d", s, got, want)
	}
	if got := text.Right(s); got != (want < 0) {
		t.Fatalf("Right(%x) = %v", s, got)
	}
	l := text.Runes(s)
	if want >= 0 {
		if len(l) != 0 {
			t.Fatalf("Runes(%x) = %x, want none", s, l)
		}
		return
	}
	if len(l) != n {
		t.Fatalf("Runes(%x) = %x, want %d of them", s, l, n)
	}
	if again, e := text.Of(l); again != s || e != api.OK {
		t.Fatalf("Of(Runes(%x)) = %x, %d", s, again, e)
	}
}

// P1.1: the place of what is no rune, by hand.
func TestBadAndRight(t *testing.T) {
	for _, c := range []struct {
		s  string
		at int
	}{
		{"", -1},
		{"a", -1},
		{"\x00", -1},
		{"\x7f", -1},
		{"\xc2\x80", -1},
		{"\xdf\xbf", -1},
		{"\xe0\xa0\x80", -1},
		{"\xed\x9f\xbf", -1},
		{"\xee\x80\x80", -1},
		{"\xef\xbf\xbd", -1},
		{"\xef\xbf\xbf", -1},
		{"\xf0\x90\x80\x80", -1},
		{"\xf4\x8f\xbf\xbf", -1},
		{"a\xc3\xa9\xe2\x82\xac\xf0\x9f\x98\x80", -1},

		{"\x80", 0},
		{"\xbf", 0},
		{"\xff", 0},
		{"\xfe", 0},
		{"\xc3\x28", 0},
		{"a\xc3\x28", 1},
		// more bytes than needed
		{"\xc0\x80", 0},
		{"\xc1\xbf", 0},
		{"\xe0\x80\x80", 0},
		{"\xe0\x9f\xbf", 0},
		{"\xf0\x80\x80\x80", 0},
		{"\xf0\x8f\xbf\xbf", 0},
		// d800 to dfff
		{"\xed\xa0\x80", 0},
		{"\xed\xbf\xbf", 0},
		{"ab\xed\xa0\xbd\xed\xb8\x80", 2},
		// beyond 10ffff
		{"\xf4\x90\x80\x80", 0},
		{"\xf5\x80\x80\x80", 0},
		{"\xf8\x88\x80\x80\x80", 0},
		// cut off by the end
		{"a\xc3", 1},
		{"a\xe2\x82", 1},
		{"a\xe2", 1},
		{"\xf0\x9f\x98", 0},
		{"\xf0\x9f", 0},
		{"\xe2\x82\xac\xf0", 3},
		// cut off by a rune
		{"\xe2\x82a", 0},
		{"\xf0\x9f\x98\xc3\xa9", 0},
		// fffd that is there, ahead of what is none
		{"\xef\xbf\xbd\xff", 3},
		{"\xef\xbf\xbd\xef\xbf", 3},
		{"\xff\xef\xbf\xbd", 0},
		{"\xef\xbf\xbd\xef\xbf\xbd\x80", 6},
		// the first one of two
		{"a\x80b\x80", 1},
	} {
		if got := text.Bad(c.s); got != c.at {
			t.Errorf("Bad(%x) = %d, want %d", c.s, got, c.at)
		}
		if got := text.Right(c.s); got != (c.at < 0) {
			t.Errorf("Right(%x) = %v", c.s, got)
		}
		checkBytes(t, c.s)
	}
}

// P1.1, P1.2: every row of up to four bytes that stand at an edge of UTF-8's rules, and every row of two.
func TestRowsOfBytes(t *testing.T) {
	edges := []byte("\x00\x0a\x41\x7f\x80\x8f\x90\x9f\xa0\xbd\xbf\xc0\xc1\xc2\xdf\xe0\xe1\xec\xed\xee\xef\xf0\xf1\xf3\xf4\xf5\xf7\xf8\xff")
	for _, a := range edges {
		for _, b := range edges {
			for _, c := range edges {
				checkBytes(t, string([]byte{a, b, c}))
				for _, d := range edges {
					checkBytes(t, string([]byte{a, b, c, d}))
				}
			}
		}
	}
	for a := range 256 {
		checkBytes(t, string([]byte{byte(a)}))
		for b := range 256 {
			checkBytes(t, string([]byte{byte(a), byte(b)}))
		}
	}
}

// encode writes a rune as the document's words say, in as few bytes as may be.
func encode(r rune) string {
	switch {
	case r <= 0x7f:
		return string([]byte{byte(r)})
	case r <= 0x7ff:
		return string([]byte{0xc0 | byte(r>>6), 0x80 | byte(r&0x3f)})
	case r <= 0xffff:
		return string([]byte{0xe0 | byte(r>>12), 0x80 | byte(r>>6&0x3f), 0x80 | byte(r&0x3f)})
	}
	return string([]byte{0xf0 | byte(r>>18), 0x80 | byte(r>>12&0x3f), 0x80 | byte(r>>6&0x3f), 0x80 | byte(r&0x3f)})
}

// P1.1, P1.2: every rune there is becomes its bytes, and comes again.
func TestEveryRune(t *testing.T) {
	for r := rune(0); r <= 0x10ffff; r++ {
		s, e := text.Of([]rune{r})
		if 0xd800 <= r && r <= 0xdfff {
			if s != "" || e != api.ErrText {
				t.Fatalf("Of(%x) = %x, %d", r, s, e)
			}
			continue
		}
		if s != encode(r) || e != api.OK {
			t.Fatalf("Of(%x) = %x, %d", r, s, e)
		}
		if l := text.Runes(s); len(l) != 1 || l[0] != r {
			t.Fatalf("Runes(%x) = %x", s, l)
		}
	}
}

// P1.1: the text of runes, and those that can't be a text's, wherever they stand.
func TestOf(t *testing.T) {
	if s, e := text.Of(nil); s != "" || e != api.OK {
		t.Errorf("Of(nil) = %q, %d", s, e)
	}
	if s, e := text.Of([]rune{}); s != "" || e != api.OK {
		t.Errorf("Of of none = %q, %d", s, e)
	}
	all := []rune{0, 0x7f, 0x80, 0x7ff, 0x800, 0xd7ff, 0xe000, 0xfffd, 0xffff, 0x10000, 0x10ffff}
	want := "\x00\x7f\xc2\x80\xdf\xbf\xe0\xa0\x80\xed\x9f\xbf\xee\x80\x80\xef\xbf\xbd\xef\xbf\xbf\xf0\x90\x80\x80\xf4\x8f\xbf\xbf"
	if s, e := text.Of(all); s != want || e != api.OK {
		t.Errorf("Of(%x) = %x, %d", all, s, e)
	}
	for _, r := range []rune{-1, -2, -97, -0x80000000, 0xd800, 0xdbff, 0xdc00, 0xdfff, 0x110000, 0x7fffffff} {
		for _, l := range [][]rune{{r}, {r, 97}, {97, r}, {97, r, 98}, {0xfffd, r}} {
			if s, e := text.Of(l); s != "" || e != api.ErrText {
				t.Errorf("Of(%x) = %x, %d", l, s, e)
			}
		}
	}
	if s, e := text.Of([]rune{0xd83d, 0xde00}); s != "" || e != api.ErrText {
		t.Errorf("Of of two halves = %x, %d", s, e)
	}
}

// P1.1: the runes of a text, none of what is no text.
func TestRunes(t *testing.T) {
	for _, c := range []struct {
		s    string
		want []rune
	}{
		{"", nil},
		{"abc", []rune{97, 98, 99}},
		{"a\xe2\x82\xac\xf0\x9f\x98\x80", []rune{97, 0x20ac, 0x1f600}},
		{"\xef\xbf\xbd", []rune{0xfffd}},
		{"\xef\xbf\xbf\xef\xbf\xbd\x00", []rune{0xffff, 0xfffd, 0}},
		{"\xff", nil},
		{"abc\xff", nil},
		{"\xffabc", nil},
		{"\xed\xa0\x80", nil},
		{"abc\xe2\x82", nil},
	} {
		if got := text.Runes(c.s); !slices.Equal(got, c.want) {
			t.Errorf("Runes(%x) = %x, want %x", c.s, got, c.want)
		}
	}
}

// P1.1: names, told byte by byte of all that may stand first and behind.
func TestName(t *testing.T) {
	const letters = "abcdefghijklmnopqrstuvwxyzABCDEFGHIJKLMNOPQRSTUVWXYZ_"
	const digits = "0123456789"
	for b := range 256 {
		c := string([]byte{byte(b)})
		first := strings.Contains(letters, c)
		behind := first || strings.Contains(digits, c)
		for s, want := range map[string]bool{c: first, c + "a": first, c + "0": first, "a" + c: behind, "_" + c + "9": behind} {
			if got := text.Name(s); got != want {
				t.Errorf("Name(%q) = %v", s, got)
			}
		}
	}
	for _, s := range []string{"_", "__", "_1", "a1b2", "Zz", letters + digits} {
		if !text.Name(s) {
			t.Errorf("Name(%q) is false", s)
		}
	}
	for _, s := range []string{"", " ", "1", "1a", "a b", " a", "a ", "a-b", "a\n", "a\x00", "\xc3\xa9", "a\xc3\xa9", "a\xef\xbc\x91", "\xce\xb1", "a\xd9\xa1", "a\xff", "\xff", "$a", "a.b"} {
		if text.Name(s) {
			t.Errorf("Name(%q) is true", s)
		}
	}
}

// P1.1: lines, by hand.
func TestLines(t *testing.T) {
	for _, c := range []struct {
		s    string
		want []string
	}{
		{"", []string{""}},
		{"a", []string{"a"}},
		{"a\r\nb\n", []string{"a", "b", ""}},
		{"a\nb", []string{"a", "b"}},
		{"a\rb", []string{"a", "b"}},
		{"a\r\nb", []string{"a", "b"}},
		{"\n", []string{"", ""}},
		{"\r", []string{"", ""}},
		{"\r\n", []string{"", ""}},
		{"\n\r", []string{"", "", ""}},
		{"\n\n", []string{"", "", ""}},
		{"\r\r", []string{"", "", ""}},
		{"\r\r\n", []string{"", "", ""}},
		{"\r\n\n", []string{"", "", ""}},
		{"\r\n\r\n", []string{"", "", ""}},
		{"\n\r\n", []string{"", "", ""}},
		{"\n\r\n\r", []string{"", "", "", ""}},
		{"a\r\nb\n\rc", []string{"a", "b", "", "c"}},
		{"\ra", []string{"", "a"}},
		{"\na\r", []string{"", "a", ""}},
		{"\r\na\r\n", []string{"", "a", ""}},
		{"a\ra\n", []string{"a", "a", ""}},
		{" a \n\tb\x0b\x0cc\xc2\x85d\xe2\x80\xa8e", []string{" a ", "\tb\x0b\x0cc\xc2\x85d\xe2\x80\xa8e"}},
		{"\xff\n\xe2\x82\r\x80", []string{"\xff", "\xe2\x82", "\x80"}},
		{"\xe2\x82\xac\n\xf0\x9f\x98\x80", []string{"\xe2\x82\xac", "\xf0\x9f\x98\x80"}},
	} {
		if got := text.Lines(c.s); !slices.Equal(got, c.want) {
			t.Errorf("Lines(%q) = %q, want %q", c.s, got, c.want)
		}
	}
}

// endsOf answers how many line ends s has, and how many bytes they take.
func endsOf(s string) (int, int) {
	pairs := strings.Count(s, "\r\n")
	signs := strings.Count(s, "\r") + strings.Count(s, "\n")
	return signs - pairs, signs
}

func checkLines(t *testing.T, s string) {
	t.Helper()
	lines := text.Lines(s)
	ends, bytes := endsOf(s)
	if len(lines) != ends+1 {
		t.Fatalf("Lines(%q) = %q, want %d ends", s, lines, ends)
	}
	whole := strings.Join(lines, "")
	if len(whole) != len(s)-bytes {
		t.Fatalf("Lines(%q) = %q: %d bytes", s, lines, len(whole))
	}
	one := strings.ReplaceAll(strings.ReplaceAll(s, "\r\n", "\n"), "\r", "\n")
	if strings.Join(lines, "\n") != one {
		t.Fatalf("Lines(%q) = %q", s, lines)
	}
}

// P1.1, P1.2: lines of every row of up to seven of these bytes are as many bytes less as their ends have.
func TestLinesLessTheirEnds(t *testing.T) {
	const signs = "\r\na\xff"
	rows := []string{""}
	for range 8 {
		var longer []string
		for _, s := range rows {
			checkLines(t, s)
			for i := range len(signs) {
				longer = append(longer, s+signs[i:i+1])
			}
		}
		rows = longer
	}
}

// R5: what is handed in is left as it is, its spare room too, and answers are new.
func TestMemory(t *testing.T) {
	room := []rune{97, 98, 99, 100}
	if s, e := text.Of(room[:2]); s != "ab" || e != api.OK {
		t.Errorf("Of = %q, %d", s, e)
	}
	if _, e := text.Of([]rune{97, -1}[:1]); e != api.OK {
		t.Errorf("Of looks at the spare room: %d", e)
	}
	if !slices.Equal(room, []rune{97, 98, 99, 100}) {
		t.Errorf("Of changed what it was given: %x", room)
	}
	l := text.Runes("ab")
	l[0] = 'x'
	if again := text.Runes("ab"); again[0] != 'a' {
		t.Errorf("Runes answers what it answered before: %x", again)
	}
	lines := text.Lines("a\nb")
	lines[0] = "x"
	if again := text.Lines("a\nb"); again[0] != "a" {
		t.Errorf("Lines answers what it answered before: %q", again)
	}
}
