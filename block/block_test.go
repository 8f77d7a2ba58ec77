package block_test

import (
	"math/rand"
	"regexp"
	"slices"
	"strings"
	"testing"

	"cascade/api"
	"cascade/block"
	"cascade/text"
)

// A second reading of the chapter, by patterns.

var (
	leading   = regexp.MustCompile(`(?s)^([ \t]*)[^ \t]`)
	escaped   = regexp.MustCompile(`\\"""`)
	lineEnd   = regexp.MustCompile(`\r\n|\r|\n`)
	edges     = regexp.MustCompile(`^([ \t]*\n)+|(\n[ \t]*)+$`)
	onlyBlank = regexp.MustCompile(`^[ \t\n]*$`)
	unvalued  = regexp.MustCompile(`(?s)\r|[\\"]$|^[ \t\n]+$|^[ \t]*\n|\n[ \t]*$`)
)

// indentOf is a second reading of Indent.
func indentOf(lines []string) int {
	var l []int
	for i := 1; i < len(lines); i++ {
		if m := leading.FindStringSubmatch(lines[i]); m != nil {
			l = append(l, len(m[1]))
		}
	}
	if len(l) == 0 {
		return 0
	}
	return slices.Min(l)
}

// valueOf is a second reading of Value.
func valueOf(raw string) string {
	lines := lineEnd.Split(escaped.ReplaceAllLiteralString(raw, `"""`), -1)
	n := indentOf(lines)
	for i := range lines {
		switch {
		case i == 0:
		case len(lines[i]) < n:
			lines[i] = ""
		default:
			lines[i] = lines[i][n:]
		}
	}
	s := strings.Join(lines, "\n")
	if onlyBlank.MatchString(s) {
		return ""
	}
	return edges.ReplaceAllLiteralString(s, "")
}

// refused is a second reading of what Raw has an error for.
func refused(s string) bool {
	return unvalued.MatchString(s) || indentOf(append([]string{""}, strings.Split(s, "\n")...)) != 0
}

// rowsEscaped puts a backslash ahead of each row of three signs 22, sign by sign.
func rowsEscaped(s string) string {
	var out []byte
	for i := 0; i < len(s); {
		if i+2 < len(s) && s[i] == '"' && s[i+1] == '"' && s[i+2] == '"' {
			out = append(out, '\\', '"', '"', '"')
			i += 3
			continue
		}
		out = append(out, s[i])
		i++
	}
	return string(out)
}

// endOf answers where s ends, with a row of three signs 22 behind it, as layer 8 tells it: at
// the first row that no sign 5c stands ahead of; -1, if there is none.
func endOf(s string) int {
	s += `"""`
	for i := 0; i+2 < len(s); {
		switch {
		case s[i:i+3] != `"""`:
			i++
		case i > 0 && s[i-1] == '\\':
			i += 3
		default:
			return i
		}
	}
	return -1
}

// checkRaw holds Raw of s against the second readings, and what it makes against P7.3.
func checkRaw(t *testing.T, s string) bool {
	t.Helper()
	raw, e := block.Raw(s)
	if refused(s) {
		if raw != "" || e != api.ErrForm {
			t.Fatalf("Raw(%q) = %q, %d, want ErrForm", s, raw, e)
		}
		return false
	}
	if want := "\n" + rowsEscaped(s); raw != want || e != api.OK {
		t.Fatalf("Raw(%q) = %q, %d, want %q", s, raw, e, want)
	}
	if again := block.Value(raw); again != s {
		t.Fatalf("Value(Raw(%q)) = %q", s, again)
	}
	if at := endOf(raw); at != len(raw) {
		t.Fatalf("Raw(%q) = %q ends at %d", s, raw, at)
	}
	return true
}

// allRows calls what it is handed with each row of up to n of these pieces.
func allRows(n int, pieces []string, each func(s string)) {
	each("")
	rows := []string{""}
	for range n {
		var longer []string
		for _, s := range rows {
			for _, p := range pieces {
				each(s + p)
				longer = append(longer, s+p)
			}
		}
		rows = longer
	}
}

// P7.1: indents, by hand.
func TestIndent(t *testing.T) {
	for _, c := range []struct {
		lines []string
		want  int
	}{
		{nil, 0},
		{[]string{}, 0},
		{[]string{""}, 0},
		{[]string{"  a"}, 0},
		{[]string{"", ""}, 0},
		{[]string{"", "a"}, 0},
		{[]string{"", " a"}, 1},
		{[]string{"", "  a"}, 2},
		{[]string{"a", "  b"}, 2},
		{[]string{"   a", "  b"}, 2},
		{[]string{" a", "  b"}, 2},
		{[]string{"a", "    b", "  c", "   d"}, 2},
		{[]string{"a", "  b", "    c"}, 2},
		{[]string{"a", "    b", "  c"}, 2},
		{[]string{"a", " b", "c"}, 0},
		{[]string{"a", "b", " c"}, 0},
		// both blanks count one
		{[]string{"", "\ta"}, 1},
		{[]string{"", "\t a"}, 2},
		{[]string{"", " \t\t a"}, 4},
		{[]string{"", "\t\ta", "   b"}, 2},
		// lines of blanks alone don't count
		{[]string{"", " "}, 0},
		{[]string{"  ", "  ", "\t"}, 0},
		{[]string{"a", "  ", ""}, 0},
		{[]string{"a", " ", "   b"}, 3},
		{[]string{"a", "   b", " "}, 3},
		{[]string{"a", "", "   b", "\t"}, 3},
		{[]string{"  ", "", "   b"}, 3},
		// blanks behind something else
		{[]string{"", "  a   "}, 2},
		{[]string{"", "a  b"}, 0},
		// all other bytes are something else
		{[]string{"", " \x0b  a"}, 1},
		{[]string{"", " \x0c"}, 1},
		{[]string{"", " \x00"}, 1},
		{[]string{"", " \r"}, 1},
		{[]string{"", " \n  "}, 1},
		{[]string{"", "  \u00a0a"}, 2},
		{[]string{"", "  \u2003a"}, 2},
		{[]string{"", "  \ufeff"}, 2},
		{[]string{"", "  \ufffd"}, 2},
		{[]string{"", " \xff "}, 1},
		{[]string{"", " \xe2\x82"}, 1},
		{[]string{"\xff", "\xa0  a"}, 0},
		{[]string{"", strings.Repeat(" \t", 5000) + "a"}, 10000},
	} {
		if got := block.Indent(c.lines); got != c.want {
			t.Errorf("Indent(%q) = %d, want %d", c.lines, got, c.want)
		}
	}
}

// P7.1: indents of all rows of up to four of these lines.
func TestIndentOfRows(t *testing.T) {
	some := []string{"", " ", "\t  ", "a", " a ", "\ta", " \tb", "   c", "\xff", " \r", "\n"}
	rows := [][]string{nil}
	for range 5 {
		var longer [][]string
		for _, l := range rows {
			if got, want := block.Indent(l), indentOf(l); got != want {
				t.Fatalf("Indent(%q) = %d, want %d", l, got, want)
			}
			for _, s := range some {
				longer = append(longer, append(slices.Clone(l), s))
			}
		}
		rows = longer
	}
}

// P7.1: each byte behind a blank: a blank, or something else.
func TestIndentOfBytes(t *testing.T) {
	for b := range 256 {
		want := 1
		if b == ' ' || b == '\t' {
			want = 2
		}
		line := string([]byte{' ', byte(b), 'a'})
		if got := block.Indent([]string{"", line}); got != want {
			t.Errorf("Indent of %q is %d, want %d", line, got, want)
		}
	}
}

// P7.1: values, by hand.
func TestValue(t *testing.T) {
	for _, c := range []struct{ raw, want string }{
		{"", ""},
		{"a", "a"},
		{"\n  a\n    b", "a\n  b"},
		{"\n  a\n    b\n", "a\n  b"},
		{"\n    a\n  b\n", "  a\nb"},
		// the first line keeps its blanks, and they don't count
		{" a ", " a "},
		{"   a\n  b\n   c", "   a\nb\n c"},
		{" a\n   b", " a\nb"},
		{"a\n  b\n  c", "a\nb\nc"},
		{"a\n  b\n c", "a\n b\nc"},
		{"a\nb\n  c", "a\nb\n  c"},
		// lines of blanks alone: at the beginning, at the end
		{" ", ""},
		{"\n", ""},
		{"\t\n \r\n  \r ", ""},
		{"\n\n\na", "a"},
		{"  \n\t\n   a", "a"},
		{"a\n\n", "a"},
		{"a\n  \n\t", "a"},
		{"\n\n  a\n\n", "a"},
		{"  \n  a  \n   ", "a  "},
		// and between: the indent is taken, what is left of them stays
		{"a\n\nb", "a\n\nb"},
		{"a\n  \nb", "a\n  \nb"},
		{"a\n \n   b", "a\n\nb"},
		{"a\n   \n   b", "a\n\nb"},
		{"a\n     \n   b", "a\n  \nb"},
		{"a\n \t \t\n  b", "a\n \t\nb"},
		{"\n   a\n\n \n    b\n", "a\n\n\n b"},
		// one byte is taken for one blank, whichever it is
		{"\n\ta\n  b", "a\n b"},
		{"\n\t\ta\n  b\n \tc", "a\nb\nc"},
		// blanks behind stay
		{"\n  a \t\n  b\t\n", "a \t\nb\t"},
		// line ends of each kind
		{"a\r\n b\r c", "a\nb\nc"},
		{"a\rb", "a\nb"},
		{"a\r\nb", "a\nb"},
		{"a\n\rb", "a\n\nb"},
		{"a\r\r\nb", "a\n\nb"},
		{"\r\n  a\r\n  b\r\n", "a\nb"},
		// rows
		{`\"""`, `"""`},
		{`a\"""b`, `a"""b`},
		{`\"""\"""`, `""""""`},
		{`\""""""`, `""""""`},
		{`\"""\""`, `"""\""`},
		{`\\"""`, `\"""`},
		{`\\\"""`, `\\"""`},
		{`\""""`, `""""`},
		{`"\"""`, `""""`},
		{`\""`, `\""`},
		{`\"`, `\"`},
		{`\`, `\`},
		{`"""`, `"""`},
		{`\n\t\u0041\\`, `\n\t\u0041\\`},
		{"\\\"\n\"\"", "\\\"\n\"\""},
		{"\n  \\\"\"\"a\n   \\\"\"\"b", "\"\"\"a\n \"\"\"b"},
		{"\n\t\n  x\\\"\"\"y\n \n", `x"""y`},
		{"\\\"\"\"\n  a", "\"\"\"\na"},
		// any bytes
		{"\xff", "\xff"},
		{"\n  \xff\n   \xe2\x82", "\xff\n \xe2\x82"},
		{"\x00\n \x00", "\x00\n\x00"},
		{"\x0b\n\x0c\n", "\x0b\n\x0c"},
		{"\u00a0\n \u00a0", "\u00a0\n\u00a0"},
		{"\u2028\n  \u2028\n", "\u2028\n\u2028"},
		{"\u0085\n  \u0085", "\u0085\n\u0085"},
		{"\n \ufffd\n", "\ufffd"},
	} {
		if got := block.Value(c.raw); got != c.want {
			t.Errorf("Value(%q) = %q, want %q", c.raw, got, c.want)
		}
		if want := valueOf(c.raw); want != c.want {
			t.Errorf("the second reading of %q is %q, want %q", c.raw, want, c.want)
		}
	}
}

// P7.1: values of all rows of up to six of these pieces.
func TestValueOfRows(t *testing.T) {
	allRows(6, []string{" ", "\t", "\n", "\r", "a", `"`, `\`, `\"""`}, func(s string) {
		if got, want := block.Value(s), valueOf(s); got != want {
			t.Fatalf("Value(%q) = %q, want %q", s, got, want)
		}
	})
	allRows(9, []string{" ", "\n", "a"}, func(s string) {
		if got, want := block.Value(s), valueOf(s); got != want {
			t.Fatalf("Value(%q) = %q, want %q", s, got, want)
		}
	})
	allRows(7, []string{`"`, `""`, `\`, `"""`}, func(s string) {
		if got, want := block.Value(s), valueOf(s); got != want {
			t.Fatalf("Value(%q) = %q, want %q", s, got, want)
		}
	})
}

// byChance is a text of up to that many lines, with blanks ahead, and much that may stand in it.
func byChance(r *rand.Rand, most int) string {
	some := []string{"a", "b ", "\t", " ", `"`, `""`, `"""`, `\"""`, `\`, "\u20ac", "\xff", "\x00", "\u00a0"}
	ends := []string{"\n", "\n", "\n", "\r\n", "\r"}
	if r.Intn(2) == 0 {
		ends = ends[:1]
	}
	var b strings.Builder
	for i := range r.Intn(most) {
		if i > 0 {
			b.WriteString(ends[r.Intn(len(ends))])
		}
		for range r.Intn(6) {
			b.WriteString(some[2+r.Intn(2)])
		}
		for range r.Intn(4) {
			b.WriteString(some[r.Intn(len(some))])
		}
	}
	return b.String()
}

// P7.1: values and indents of texts of many lines, by chance.
func TestValueByChance(t *testing.T) {
	r := rand.New(rand.NewSource(1))
	for range 50000 {
		s := byChance(r, 12)
		if got, want := block.Value(s), valueOf(s); got != want {
			t.Fatalf("Value(%q) = %q, want %q", s, got, want)
		}
		if l := text.Lines(s); block.Indent(l) != indentOf(l) {
			t.Fatalf("Indent(%q) = %d, want %d", l, block.Indent(l), indentOf(l))
		}
	}
}

// P7.2: raw texts, by hand.
func TestRaw(t *testing.T) {
	for _, c := range []struct{ s, want string }{
		{"", "\n"},
		{"a", "\na"},
		{"a\nb", "\na\nb"},
		{"a\n  b", "\na\n  b"},
		{"  a\nb", "\n  a\nb"},
		{"\ta\nb\n c", "\n\ta\nb\n c"},
		{"a\n\nb", "\na\n\nb"},
		{"a\n \t \nb", "\na\n \t \nb"},
		{"a ", "\na "},
		{"a\t\nb\t ", "\na\t\nb\t "},
		{`"a`, "\n\"a"},
		{`""a`, "\n\"\"a"},
		{`"""a`, "\n\\\"\"\"a"},
		{`""""a`, "\n\\\"\"\"\"a"},
		{`"""""a`, "\n\\\"\"\"\"\"a"},
		{`""""""a`, "\n\\\"\"\"\\\"\"\"a"},
		{`a"""b"""c`, "\n" + `a\"""b\"""c`},
		{`\"""a`, "\n" + `\\"""a`},
		{`\\"""a`, "\n" + `\\\"""a`},
		{`a\b`, "\na\\b"},
		{`a\"b`, "\na\\\"b"},
		{"a\n  b\"\"\"c", "\na\n  b\\\"\"\"c"},
		{"a\\\nb", "\na\\\nb"},
		{"a\"\"\"\nb", "\na\\\"\"\"\nb"},
		{"a\"\"\n\"b", "\na\"\"\n\"b"},
		// any other bytes
		{"\x00", "\n\x00"},
		{"\x0b\n\x0c", "\n\x0b\n\x0c"},
		{"\u00a0", "\n\u00a0"},
		{"\u20ac\n \U0001f600", "\n\u20ac\n \U0001f600"},
		{"\xff\n \xe2\x82", "\n\xff\n \xe2\x82"},
	} {
		if raw, e := block.Raw(c.s); raw != c.want || e != api.OK {
			t.Errorf("Raw(%q) = %q, %d, want %q", c.s, raw, e, c.want)
		}
		checkRaw(t, c.s)
	}
}

// P7.2: what doesn't come again, by hand: each of the ways, at each of its places.
func TestRawWrong(t *testing.T) {
	for _, s := range []string{
		// a sign 0d
		"\r", "a\rb", "\ra", "a\r", "a\r\nb", "a\nb\rc\nd",
		// a sign 5c or 22 at the end
		`\`, `"`, `a\`, `a"`, `a\\`, `a""`, `a"""`, `a\"""`, "a\nb\\", "a\nb\"", "a\n\"",
		// blanks and line ends alone
		" ", "\t", "\n", "  \t", " \n ", "\n\n", "\n \n", "\t\n\t\n\t",
		// the first line of blanks alone
		"\na", " \na", "\t\na\nb", "\n\na", "\n  a",
		// the last one
		"a\n", "a\n ", "a\n\t \t", "a\nb\n", "a\n\n", "a\n \n",
		// an indent
		" a", "\ta", "  a\n  b", " a\n\n b", "  a\n b", " a\n  b", "\ta\n b", " a\n \n b", "   a\n\n\t\tb\n   c",
	} {
		if raw, e := block.Raw(s); raw != "" || e != api.ErrForm {
			t.Errorf("Raw(%q) = %q, %d", s, raw, e)
		}
		checkRaw(t, s)
	}
}

// P7.2: each byte alone, ahead, behind, and in a line of its own.
func TestRawOfBytes(t *testing.T) {
	for b := range 256 {
		c := string([]byte{byte(b)})
		for _, s := range []string{c, c + "a", "a" + c, "a" + c + "b", "a\n" + c, c + "\na", "a\n" + c + "\nb", " " + c, c + "a\nb"} {
			checkRaw(t, s)
		}
	}
}

// P7.2, P7.3: what Raw makes of all rows of up to six of these pieces has the value that it was
// made of; and what it refuses has not, but for a sign at the end that the row behind would change.
func TestRawOfRows(t *testing.T) {
	came, refusals := 0, 0
	each := func(s string) {
		if checkRaw(t, s) {
			came++
			return
		}
		refusals++
		again := block.Value("\n" + rowsEscaped(s))
		if again == s && !strings.HasSuffix(s, `\`) && !strings.HasSuffix(s, `"`) {
			t.Fatalf("Raw(%q) is refused, and comes again", s)
		}
	}
	allRows(6, []string{" ", "\t", "\n", "\r", "a", `"`, `\`, `"""`}, each)
	allRows(9, []string{" ", "\n", "a"}, each)
	allRows(9, []string{`"`, `\`, "a"}, each)
	if came < 10000 || refusals < 10000 {
		t.Errorf("%d came again, %d were refused", came, refusals)
	}
}

// P7.2, P7.3: the same by chance, of many lines; and each value comes again, if Raw takes it.
func TestRawByChance(t *testing.T) {
	r := rand.New(rand.NewSource(2))
	came := 0
	for range 50000 {
		s := byChance(r, 6)
		checkRaw(t, s)
		if checkRaw(t, block.Value(s)) {
			came++
		}
	}
	if came < 10000 {
		t.Errorf("just %d came again", came)
	}
}

// R5: what is handed in is left as it is, its spare room too.
func TestMemory(t *testing.T) {
	all := []string{"a", "  b", "   c", " d", "e"}
	room := slices.Clone(all)
	for n := range len(room) + 1 {
		if got, want := block.Indent(room[:n]), indentOf(all[:n]); got != want {
			t.Errorf("Indent of %d is %d, want %d", n, got, want)
		}
	}
	if !slices.Equal(room, all) {
		t.Errorf("Indent changed what it was given: %q", room)
	}
}

// R1: long texts end soon, in lines, in rows, and in blanks.
func TestLong(t *testing.T) {
	const n = 1 << 20
	if got := block.Value(strings.Repeat("\n", n)); got != "" {
		t.Errorf("Value of line ends has %d bytes", len(got))
	}
	if got := block.Value("a" + strings.Repeat("\n", n) + " b"); got != "a"+strings.Repeat("\n", n)+"b" {
		t.Errorf("Value of lines has %d bytes", len(got))
	}
	if got := block.Value(strings.Repeat(`\"""`, n)); got != strings.Repeat(`"""`, n) {
		t.Errorf("Value of rows has %d bytes", len(got))
	}
	if got := block.Value("\n" + strings.Repeat(" ", n) + "a"); got != "a" {
		t.Errorf("Value of blanks has %d bytes", len(got))
	}
	s := strings.Repeat(`"`, 3*n) + "a"
	if raw, e := block.Raw(s); e != api.OK || raw != "\n"+strings.Repeat(`\"""`, n)+"a" || block.Value(raw) != s {
		t.Errorf("Raw of rows: %d bytes, %d", len(raw), e)
	}
	if raw, e := block.Raw(strings.Repeat(" a\n", n) + " a"); e != api.ErrForm || raw != "" {
		t.Errorf("Raw of lines: %d bytes, %d", len(raw), e)
	}
}
