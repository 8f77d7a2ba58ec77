package json_test

import (
	library "encoding/json"
	"math"
	"math/rand"
	"reflect"
	"slices"
	"strconv"
	"strings"
	"testing"
	"unsafe"

	"cascade/api"
	"cascade/json"
	"cascade/quote"
	"cascade/tree"
)

// Values by hand.

var null = api.Value{}

func boolean(n int64) api.Value { return api.Value{Kind: api.Bool, N: n} }

func number(n int64) api.Value { return api.Value{Kind: api.Int, N: n} }

func str(s string) api.Value { return api.Value{Kind: api.String, S: s} }

func list(l ...api.Value) api.Value { return api.Value{Kind: api.List, L: l} }

func object(f ...api.Pair) api.Value { return api.Value{Kind: api.Object, F: f} }

func pair(key string, v api.Value) api.Pair { return api.Pair{Key: key, V: v} }

// Values by chance.

const texts = "|a|b|c|aa|ab|\u00e9|\u20ac|\U0001f600|\ufffd|\x00|a b|\"|\\|\n|/|\u2028|<&>|[1,2]|{\"a\":1}|null"

func someText(r *rand.Rand) string {
	l := strings.Split(texts, "|")
	return l[r.Intn(len(l))]
}

// someValue is a right value of at most that many levels.
func someValue(r *rand.Rand, levels int) api.Value {
	kinds := 6
	if levels == 1 {
		kinds = 4
	}
	switch r.Intn(kinds) {
	case api.Bool:
		return boolean(int64(r.Intn(2)))
	case api.Int:
		return number([]int64{0, 1, -1, 10, -10, r.Int63n(1000), api.MaxNumber, -api.MaxNumber}[r.Intn(8)])
	case api.String:
		return str(someText(r))
	case api.List:
		v := list()
		for range r.Intn(4) {
			v.L = append(v.L, someValue(r, levels-1))
		}
		return v
	case api.Object:
		v := object()
		for range r.Intn(4) {
			key := someText(r)
			if !slices.ContainsFunc(v.F, func(p api.Pair) bool { return p.Key == key }) {
				v.F = append(v.F, pair(key, someValue(r, levels-1)))
			}
		}
		return v
	}
	return null
}

// Readings of a value that the tests go by.

// pieces are the signs and the values without others in them of a value's JSON, in order: blanks may stand about each.
func pieces(v api.Value) []string {
	switch v.Kind {
	case api.Bool:
		return []string{[]string{"false", "true"}[v.N]}
	case api.Int:
		return []string{strconv.Itoa(int(v.N))}
	case api.String:
		return []string{quoted(v.S)}
	case api.List:
		l := []string{"["}
		for _, x := range v.L {
			l = append(append(l, pieces(x)...), ",")
		}
		return append(strip(l), "]")
	case api.Object:
		l := []string{"{"}
		for _, p := range v.F {
			l = append(append(append(l, quoted(p.Key), ":"), pieces(p.V)...), ",")
		}
		return append(strip(l), "}")
	}
	return []string{"null"}
}

// strip takes a comma from the end, if one is there.
func strip(l []string) []string {
	if l[len(l)-1] == "," {
		return l[:len(l)-1]
	}
	return l
}

func quoted(s string) string {
	q, _ := quote.Quote(s)
	return q
}

// loose is what the library would make of a value's JSON.
func loose(v api.Value) any {
	switch v.Kind {
	case api.Bool:
		return v.N == 1
	case api.Int:
		return library.Number(strconv.Itoa(int(v.N)))
	case api.String:
		return v.S
	case api.List:
		l := []any{}
		for _, x := range v.L {
			l = append(l, loose(x))
		}
		return l
	case api.Object:
		m := map[string]any{}
		for _, p := range v.F {
			m[p.Key] = loose(p.V)
		}
		return m
	}
	return nil
}

// reading is what Read and Parse answer: the value's JSON, or nothing beside an error, if the value there is zero.
type reading struct {
	v  string
	at int
	e  api.Errno
}

func told(v api.Value, at int, e api.Errno) reading {
	s := strings.Join(pieces(v), "")
	if e != api.OK && reflect.DeepEqual(v, null) {
		s = ""
	}
	return reading{s, at, e}
}

func parse(s string) reading { return told(json.Parse(s)) }

func read(s string, most int) reading { return told(json.Read(s, most)) }

// P5.1: by hand.
func TestEncode(t *testing.T) {
	for _, c := range []struct {
		v    api.Value
		want string
	}{
		{null, "null"},
		{boolean(1), "true"},
		{boolean(0), "false"},
		{number(0), "0"},
		{number(7), "7"},
		{number(-1), "-1"},
		{number(1000), "1000"},
		{number(api.MaxNumber), "9007199254740991"},
		{number(-api.MaxNumber), "-9007199254740991"},
		{str(""), `""`},
		{str("a"), `"a"`},
		{str("a\"\\/\n\x01\x7f\u20ac\u2028<\U0001f600"), "\"a\\\"\\\\/\\n\\u0001\x7f\u20ac\u2028<\U0001f600\""},
		{list(), "[]"},
		{api.Value{Kind: api.List, L: []api.Value{}}, "[]"},
		{list(null), "[null]"},
		{list(number(1), number(-2), null, boolean(1), boolean(0)), "[1,-2,null,true,false]"},
		{list(list(), list(list()), object()), "[[],[[]],{}]"},
		{object(), "{}"},
		{api.Value{Kind: api.Object, F: []api.Pair{}}, "{}"},
		{object(pair("", null)), `{"":null}`},
		{object(pair("b", number(1)), pair("a", str("x"))), `{"b":1,"a":"x"}`},
		{object(pair("\n\"", list(object(pair("k", object()))))), `{"\n\"":[{"k":{}}]}`},
	} {
		if s, e := json.Encode(c.v); s != c.want || e != api.OK {
			t.Errorf("Encode(%v) = %q, %d, want %q", c.v, s, e, c.want)
		}
	}
}

// P5.1: what isn't right, wherever it is.
func TestEncodeWrong(t *testing.T) {
	holds := api.Value{Kind: api.List, L: make([]api.Value, 1)}
	holds.L[0] = holds
	for _, v := range []api.Value{
		{N: 1}, {S: "a"}, {L: []api.Value{{}}}, {F: []api.Pair{{}}},
		{Kind: -1}, {Kind: api.Enum, S: "a"}, {Kind: api.Ref, S: "a"}, {Kind: 8}, {Kind: 9}, {Kind: math.MaxInt},
		boolean(2), boolean(-1), {Kind: api.Bool, S: "a"},
		number(api.MaxNumber + 1), number(-api.MaxNumber - 1), number(math.MaxInt64), number(math.MinInt64),
		str("\xff"), str("a\xc3"), str("\xed\xa0\x80"), {Kind: api.String, N: 1},
		{Kind: api.List, N: 1}, {Kind: api.List, F: []api.Pair{{}}}, {Kind: api.Object, L: []api.Value{{}}},
		object(pair("\xff", null)), object(pair("a", null), pair("b", null), pair("a", null)),
		holds,
	} {
		for _, w := range []api.Value{v, list(null, v), object(pair("a", null), pair("b", v)), list(list(v), null)} {
			if s, e := json.Encode(w); s != "" || e != api.ErrArg {
				t.Errorf("Encode = %q, %d", s, e)
			}
		}
	}
}

// nesting is a text of that many levels, lists and objects by turns of what the bits of how say, about
// what stands inmost; and the place of that. Without its ends it stops there.
func nesting(levels, how int, inmost string, ends bool) (string, int) {
	begin, end := "", ""
	for i := range levels - 1 {
		if how>>i&1 == 0 {
			begin, end = begin+"[", "]"+end
		} else {
			begin, end = begin+"{\"k\":", "}"+end
		}
	}
	if !ends {
		end = ""
	}
	return begin + inmost + end, len(begin)
}

// P5.1, P5.2: every nesting at MaxDeep, and beyond.
func TestDeep(t *testing.T) {
	for how := range 1 << (api.MaxDeep - 1) {
		for _, inmost := range []string{"1", "null", `"a"`, "[]", "{}", "[ ]"} {
			s, _ := nesting(api.MaxDeep, how, inmost, true)
			v, at, e := json.Parse(s)
			if at != -1 || e != api.OK || !tree.Right(v) {
				t.Fatalf("Parse(%q) = %v, %d, %d", s, v, at, e)
			}
			if got, e := json.Encode(v); got != strings.ReplaceAll(s, " ", "") || e != api.OK {
				t.Fatalf("Encode(%v) = %q, %d", v, got, e)
			}
			if got, e := json.Encode(list(v)); got != "" || e != api.ErrArg {
				t.Fatalf("Encode([%v]) = %q, %d", v, got, e)
			}
		}
	}
	for how := range 1 << api.MaxDeep {
		for _, inmost := range []string{"1", "null", `"a"`, "[]", "{}", `"`, "\"\xff\"", "nul", "x", "-", "-0", "01", "9007199254740992", "\xff", "\x00", ",", ":", "}", "\\"} {
			for _, ends := range []bool{true, false} {
				s, place := nesting(api.MaxDeep+1, how, inmost, ends)
				if got := parse(s); got != (reading{"", place, api.ErrDeep}) {
					t.Fatalf("Parse(%q) = %v, want ErrDeep at %d", s, got, place)
				}
			}
		}
		s, place := nesting(api.MaxDeep+1, how, "\n1", false)
		if got := parse(s); got != (reading{"", place + 1, api.ErrDeep}) {
			t.Fatalf("Parse(%q) = %v", s, got)
		}
		// The end of s isn't what stands there.
		for _, blanks := range []string{"", " ", "\t\n"} {
			s, _ := nesting(api.MaxDeep+1, how, blanks, false)
			if got := parse(s); got != (reading{"", len(s), api.ErrForm}) {
				t.Fatalf("Parse(%q) = %v", s, got)
			}
		}
	}
}

// P5.2: behind a deep value others stand as deep; what is read ahead of a level that is too deep is told ahead of it.
func TestDeepAndMore(t *testing.T) {
	deep, _ := nesting(api.MaxDeep-1, 0, "1", true)
	for _, s := range []string{"[" + deep + "," + deep + "," + deep + "]", `{"a":` + deep + `,"b":` + deep + "}"} {
		if got := parse(s); got != (reading{s, -1, api.OK}) {
			t.Errorf("Parse(%q) = %v", s, got)
		}
	}
	open := strings.Repeat("[", api.MaxDeep-1)
	for _, c := range []struct {
		s  string
		at int
		e  api.Errno
	}{
		{"[" + deep + ",[" + deep + "]]", len("["+deep+",[") + api.MaxDeep - 2, api.ErrDeep},
		{open + "[]x", len(open) + 2, api.ErrForm},
		{open + "{}", len(open) + 2, api.ErrForm},
		{open + "[", len(open) + 1, api.ErrForm},
		{open + "[ ]", len(open) + 3, api.ErrForm},
		{open + "{x", len(open) + 1, api.ErrForm},
		{open + "{\"a\"x", len(open) + 4, api.ErrForm},
		{open + "{\"\\x\":1", len(open) + 2, api.ErrForm},
		{open + "{\"a\":", len(open) + 5, api.ErrForm},
		{open + "{\"a\":]", len(open) + 5, api.ErrDeep},
		{open + "[,", len(open) + 1, api.ErrDeep},
		{open + "1,[[[x", len(open) + 3, api.ErrDeep},
		{open + "1,[", len(open) + 3, api.ErrForm},
		{strings.Repeat("[", api.MaxBytes), api.MaxDeep, api.ErrDeep},
		{strings.Repeat("{", api.MaxBytes), 1, api.ErrForm},
		{strings.Repeat(`{"a":`, api.MaxBytes/5), 5 * api.MaxDeep, api.ErrDeep},
	} {
		if got := parse(c.s); got != (reading{"", c.at, c.e}) {
			t.Errorf("Parse(%q) = %v, want %d at %d", c.s, got, c.e, c.at)
		}
	}
}

// P5.2: by hand, what is read. Encoded it is the text that is wanted.
func TestParse(t *testing.T) {
	for _, c := range []struct {
		s    string
		want api.Value
	}{
		{"null", null},
		{"true", boolean(1)},
		{"false", boolean(0)},
		{"0", number(0)},
		{"7", number(7)},
		{"10", number(10)},
		{"-1", number(-1)},
		{"-10", number(-10)},
		{"9007199254740991", number(api.MaxNumber)},
		{"-9007199254740991", number(-api.MaxNumber)},
		{`""`, str("")},
		{`"a b"`, str("a b")},
		{`"\u0041\/\ud83D\uDe00\n"`, str("A/\U0001f600\n")},
		{"\"\u20ac\ufffd\x7f\"", str("\u20ac\ufffd\x7f")},
		{`"[1,]"`, str("[1,]")},
		{"[]", list()},
		{"[ ]", list()},
		{"{}", object()},
		{"{ }", object()},
		{"[0]", list(number(0))},
		{"[1,-2 ,null,true,false]", list(number(1), number(-2), null, boolean(1), boolean(0))},
		{"[[],[[]],{}]", list(list(), list(list()), object())},
		{`{"b":1,"a":"x"}`, object(pair("b", number(1)), pair("a", str("x")))},
		{`{"":null}`, object(pair("", null))},
		{`{"\u0041":1,"a":2}`, object(pair("A", number(1)), pair("a", number(2)))},
		{`{"a":{"a":{"a":1}}}`, object(pair("a", object(pair("a", object(pair("a", number(1)))))))},
		{`[{"a":1},{"a":2}]`, list(object(pair("a", number(1))), object(pair("a", number(2))))},
		{`{ "a" : [ 1, -2 ] }`, object(pair("a", list(number(1), number(-2))))},
		{" \t\n\r0\r\n\t ", number(0)},
		{"\n{\t\"a\"\r:\n[ \t1 ,\n2\r] , \"b\" : null } ", object(pair("a", list(number(1), number(2))), pair("b", null))},
	} {
		v, at, e := json.Parse(c.s)
		if !tree.Same(v, c.want) || at != -1 || e != api.OK {
			t.Errorf("Parse(%q) = %v, %d, %d, want %v", c.s, v, at, e, c.want)
		}
	}
}

// wrong are texts that are none's JSON, each with its error and the place of that.
var wrong = []struct {
	s  string
	at int
	e  api.Errno
}{
	// something is missing: the end of s
	{"", 0, api.ErrForm},
	{" ", 1, api.ErrForm},
	{"\t\n\r ", 4, api.ErrForm},
	{"[", 1, api.ErrForm},
	{"[ ", 2, api.ErrForm},
	{"[1", 2, api.ErrForm},
	{"[1 ", 3, api.ErrForm},
	{"[1,", 3, api.ErrForm},
	{"[1,2", 4, api.ErrForm},
	{"[[]", 3, api.ErrForm},
	{"{", 1, api.ErrForm},
	{"{ ", 2, api.ErrForm},
	{`{"a"`, 4, api.ErrForm},
	{`{"a" `, 5, api.ErrForm},
	{`{"a":`, 5, api.ErrForm},
	{`{"a": `, 6, api.ErrForm},
	{`{"a":1`, 6, api.ErrForm},
	{`{"a":1,`, 7, api.ErrForm},
	{`{"a":{}`, 7, api.ErrForm},
	// what stands behind the value
	{"null x", 5, api.ErrForm},
	{"nullnull", 4, api.ErrForm},
	{"nulll", 4, api.ErrForm},
	{"truefalse", 4, api.ErrForm},
	{"false0", 5, api.ErrForm},
	{"1 2", 2, api.ErrForm},
	{"1,", 1, api.ErrForm},
	{"1]", 1, api.ErrForm},
	{"[]]", 2, api.ErrForm},
	{"{}}", 2, api.ErrForm},
	{"[][]", 2, api.ErrForm},
	{`"a""b"`, 3, api.ErrForm},
	{`"a":1`, 3, api.ErrForm},
	{"1\x00", 1, api.ErrForm},
	{"1\x0b", 1, api.ErrForm},
	{"1\xff", 1, api.ErrForm},
	{"1\u00a0", 1, api.ErrForm},
	{"1.5", 1, api.ErrForm},
	{"1.", 1, api.ErrForm},
	{"1e5", 1, api.ErrForm},
	{"1E5", 1, api.ErrForm},
	{"1-", 1, api.ErrForm},
	{"1a", 1, api.ErrForm},
	{"0x1", 1, api.ErrForm},
	{"1_0", 1, api.ErrForm},
	{"0-0", 1, api.ErrForm},
	{"1 [[[[[[[[[[[[[[", 2, api.ErrForm},
	// where a value must stand
	{"x", 0, api.ErrForm},
	{" x", 1, api.ErrForm},
	{"n", 0, api.ErrForm},
	{"nul", 0, api.ErrForm},
	{"nulL", 0, api.ErrForm},
	{"Null", 0, api.ErrForm},
	{"NULL", 0, api.ErrForm},
	{"tru", 0, api.ErrForm},
	{"True", 0, api.ErrForm},
	{"t rue", 0, api.ErrForm},
	{"fals", 0, api.ErrForm},
	{"falsE", 0, api.ErrForm},
	{"[nul]", 1, api.ErrForm},
	{"[1, tru ]", 4, api.ErrForm},
	{"nil", 0, api.ErrForm},
	{"NaN", 0, api.ErrForm},
	{"Infinity", 0, api.ErrForm},
	{"'a'", 0, api.ErrForm},
	{".5", 0, api.ErrForm},
	{"+1", 0, api.ErrForm},
	{"\u0661", 0, api.ErrForm},
	{"\x00", 0, api.ErrForm},
	{"\x0b1", 0, api.ErrForm},
	{"\x0c1", 0, api.ErrForm},
	{"\xff", 0, api.ErrForm},
	{"\u00a01", 0, api.ErrForm},
	{"\u20281", 0, api.ErrForm},
	{"\ufeff1", 0, api.ErrForm},
	{"//\n1", 0, api.ErrForm},
	{"]", 0, api.ErrForm},
	{"}", 0, api.ErrForm},
	{",", 0, api.ErrForm},
	{":", 0, api.ErrForm},
	{"\\", 0, api.ErrForm},
	{"[,]", 1, api.ErrForm},
	{"[,1]", 1, api.ErrForm},
	{"[1,]", 3, api.ErrForm},
	{"[1, ]", 4, api.ErrForm},
	{"[1,,2]", 3, api.ErrForm},
	{"[}", 1, api.ErrForm},
	{"[:", 1, api.ErrForm},
	{`{"a":}`, 5, api.ErrForm},
	{`{"a": }`, 6, api.ErrForm},
	{`{"a":,`, 5, api.ErrForm},
	{`{"a"::1}`, 5, api.ErrForm},
	{`{"a":]`, 5, api.ErrForm},
	// where a sign must stand
	{"[1 2]", 3, api.ErrForm},
	{"[1}", 2, api.ErrForm},
	{"[1:2]", 2, api.ErrForm},
	{`["a" "b"]`, 5, api.ErrForm},
	{`["a":1]`, 4, api.ErrForm},
	{"[null null]", 6, api.ErrForm},
	{"[[]x]", 3, api.ErrForm},
	{"[1\x0b]", 2, api.ErrForm},
	{"[1\xff", 2, api.ErrForm},
	{"[1.5]", 2, api.ErrForm},
	{`{"a" 1}`, 5, api.ErrForm},
	{`{"a",1}`, 4, api.ErrForm},
	{`{"a"}`, 4, api.ErrForm},
	{`{"a"=1}`, 4, api.ErrForm},
	{`{"a":1 "b":2}`, 7, api.ErrForm},
	{`{"a":1]`, 6, api.ErrForm},
	{`{"a":1:2}`, 6, api.ErrForm},
	{`{"a":1;"b":2}`, 6, api.ErrForm},
	// where a key must stand
	{"{x", 1, api.ErrForm},
	{"{a:1}", 1, api.ErrForm},
	{"{1:1}", 1, api.ErrForm},
	{"{ 1:1}", 2, api.ErrForm},
	{"{null:1}", 1, api.ErrForm},
	{"{{}:1}", 1, api.ErrForm},
	{"{[", 1, api.ErrForm},
	{"{:1}", 1, api.ErrForm},
	{"{,}", 1, api.ErrForm},
	{"{]", 1, api.ErrForm},
	{"{'a':1}", 1, api.ErrForm},
	{"{\xff", 1, api.ErrForm},
	{`{"a":1,}`, 7, api.ErrForm},
	{`{"a":1, }`, 8, api.ErrForm},
	{`{"a":1,,`, 7, api.ErrForm},
	{`{"a":1,b:2}`, 7, api.ErrForm},
	// numbers
	{"-", 0, api.ErrForm},
	{"- 1", 0, api.ErrForm},
	{"--1", 0, api.ErrForm},
	{"-a", 0, api.ErrForm},
	{"-.5", 0, api.ErrForm},
	{"-\xff", 0, api.ErrForm},
	{"[-]", 1, api.ErrForm},
	{"[1,-", 3, api.ErrForm},
	{`{"a":-}`, 5, api.ErrForm},
	{"-0", 0, api.ErrForm},
	{" -0 ", 1, api.ErrForm},
	{"[-0]", 1, api.ErrForm},
	{"-0x", 0, api.ErrForm},
	{"-0.5", 0, api.ErrForm},
	{"-0-1", 0, api.ErrForm},
	{"01", 1, api.ErrForm},
	{"00", 1, api.ErrForm},
	{"000", 1, api.ErrForm},
	{"09", 1, api.ErrForm},
	{"[1,01]", 4, api.ErrForm},
	{"-01", 2, api.ErrForm},
	{"-00", 2, api.ErrForm},
	{"[ -012 ]", 4, api.ErrForm},
	{"09007199254740992", 1, api.ErrForm},
	{"-09007199254740992", 2, api.ErrForm},
	{"0" + "99999999999999999999", 1, api.ErrForm},
	{"9007199254740992", 0, api.ErrLong},
	{"-9007199254740992", 0, api.ErrLong},
	{"[1, 9007199254740992", 4, api.ErrLong},
	{"[-9007199254740992x", 1, api.ErrLong},
	{"10000000000000000", 0, api.ErrLong},
	{"9223372036854775807", 0, api.ErrLong},
	{"9223372036854775808", 0, api.ErrLong},
	{"-9223372036854775808", 0, api.ErrLong},
	{"-9223372036854775809", 0, api.ErrLong},
	{"18446744073709551616", 0, api.ErrLong},
	{"18446744073709551617", 0, api.ErrLong},
	{"-18446744073709551617", 0, api.ErrLong},
	{"340282366920938463463374607431768211457", 0, api.ErrLong},
	{"9007199254740992.5", 0, api.ErrLong},
	{"[9007199254740992,\"\xff", 1, api.ErrLong},
	// layer 2's
	{`"`, 1, api.ErrForm},
	{`"a`, 2, api.ErrForm},
	{`["a`, 3, api.ErrForm},
	{`["a]`, 4, api.ErrForm},
	{`["a\x"]`, 3, api.ErrForm},
	{`["\`, 2, api.ErrForm},
	{`["\u12"]`, 2, api.ErrForm},
	{`["\ud800"]`, 2, api.ErrForm},
	{"[\"a\n\"]", 3, api.ErrForm},
	{"[\"\xff\"]", 2, api.ErrText},
	{" \"ab\xc3\"", 4, api.ErrText},
	{"\"\xed\xa0\x80\"", 1, api.ErrText},
	{`{"`, 2, api.ErrForm},
	{`{"a`, 3, api.ErrForm},
	{`{"\q":1}`, 2, api.ErrForm},
	{"{\"\xff\":1}", 2, api.ErrText},
	{"{\"a\":1, \"b\xff", 10, api.ErrText},
	{"{\"a\":\"\t\"}", 6, api.ErrForm},
	{"[\"\xff\n", 2, api.ErrText},
	// a key that comes again
	{`{"a":1,"a":2}`, 7, api.ErrTwice},
	{`{"a":1, "a":2}`, 8, api.ErrTwice},
	{`{"a":1,"a"`, 7, api.ErrTwice},
	{`{"a":1,"a"x`, 7, api.ErrTwice},
	{`{"a":1,"a":x`, 7, api.ErrTwice},
	{`{"a":1,"a":9007199254740992}`, 7, api.ErrTwice},
	{`{"a":1,"b":2,"a":3}`, 13, api.ErrTwice},
	{`{"a":1,"b":2,"b":3,"a":4}`, 13, api.ErrTwice},
	{`{"a":1,"\u0061":2}`, 7, api.ErrTwice},
	{`{"/":1,"\/":2}`, 7, api.ErrTwice},
	{`{"":1,"":2}`, 6, api.ErrTwice},
	{`{"a":{"b":1,"b":2},"a":3}`, 12, api.ErrTwice},
	{`{"a":{"a":1},"a":2}`, 13, api.ErrTwice},
	{`[{"a":1},{"a":1,"a":2}]`, 16, api.ErrTwice},
	{`{"":1,"`, 7, api.ErrForm},
	{`{"":1,x`, 6, api.ErrForm},
	{`{"":1,}`, 6, api.ErrForm},
	{`{"a":1,"a`, 9, api.ErrForm},
	{`{"a":x,"a":1}`, 5, api.ErrForm},
	{`{"a":1 "a":1}`, 7, api.ErrForm},
}

// P5.2: by hand, what is wrong, and where.
func TestParseWrong(t *testing.T) {
	for _, c := range wrong {
		if got := parse(c.s); got != (reading{"", c.at, c.e}) {
			t.Errorf("Parse(%q) = %v, want %d at %d", c.s, got, c.e, c.at)
		}
		for _, ahead := range []string{"\n", "[", "\n[ ", `{"a": `, `[true,"\"]",{"a":[]} , `} {
			if got, want := parse(ahead+c.s), expected(ahead+c.s); got != want {
				t.Errorf("Parse(%q) = %v, want %v", ahead+c.s, got, want)
			}
		}
	}
}

// P5.2: each byte ahead of a value, behind it, and about signs: of those that begin nothing and are no signs just blanks may stand there.
func TestEveryByte(t *testing.T) {
	const right = `{"a":[null,true]}`
	for c := range 256 {
		if strings.IndexByte(`"[]{},:-0123456789`, byte(c)) >= 0 {
			continue
		}
		for _, s := range []string{`@{"a":[null,true]}`, `{@"a":[null,true]}`, `{"a"@:[null,true]}`, `{"a":@[null,true]}`, `{"a":[@null,true]}`,
			`{"a":[null@,true]}`, `{"a":[null,@true]}`, `{"a":[null,true@]}`, `{"a":[null,true]@}`, `{"a":[null,true]}@`} {
			want := reading{"", strings.Index(s, "@"), api.ErrForm}
			if c == 0x20 || c == 0x09 || c == 0x0a || c == 0x0d {
				want = reading{right, -1, api.OK}
			}
			s = strings.Replace(s, "@", string([]byte{byte(c)}), 1)
			if got := parse(s); got != want {
				t.Errorf("Parse(%q) = %v, want %v", s, got, want)
			}
		}
	}
}

// P5.2: MaxBytes, and as many as most says.
func TestLong(t *testing.T) {
	for _, c := range []struct{ begin, fill, end string }{
		{"", " ", "1"}, {"1", " ", ""}, {`"`, "a", `"`}, {"[", "\n", "]"}, {`{"`, "k", `":1}`},
	} {
		fill := api.MaxBytes - len(c.begin) - len(c.end)
		s := c.begin + strings.Repeat(c.fill, fill) + c.end
		if v, at, e := json.Parse(s); at != -1 || e != api.OK || !tree.Right(v) {
			t.Errorf("Parse of %d bytes: %d at %d", len(s), e, at)
		}
		s = c.begin + strings.Repeat(c.fill, fill+1) + c.end
		if got := parse(s); got != (reading{"", 0, api.ErrLong}) {
			t.Errorf("Parse of %d bytes: %v", len(s), got)
		}
		if v, at, e := json.Read(s, len(s)); at != -1 || e != api.OK || !tree.Right(v) {
			t.Errorf("Read of %d bytes: %d at %d", len(s), e, at)
		}
	}
	// Whatever stands in them.
	for _, c := range []string{"x", "\xff", "[", "1", "\"", " "} {
		if got := parse(strings.Repeat(c, api.MaxBytes+1)); got != (reading{"", 0, api.ErrLong}) {
			t.Errorf("Parse of %q again and again: %v", c, got)
		}
		if got := parse(strings.Repeat(c, api.MaxBytes)); got.e == api.OK || got.v != "" || c != "1" && got.e == api.ErrLong {
			t.Errorf("Parse of %q again and again: %v", c, got)
		}
	}
	for _, c := range []struct {
		s    string
		most int
		want reading
	}{
		{"[1]", 3, reading{"[1]", -1, api.OK}},
		{"[1]", 4, reading{"[1]", -1, api.OK}},
		{"[1]", math.MaxInt, reading{"[1]", -1, api.OK}},
		{"[1]", 2, reading{"", 0, api.ErrLong}},
		{"[1] ", 3, reading{"", 0, api.ErrLong}},
		{"[1]", 0, reading{"", 0, api.ErrLong}},
		{"[1]", -1, reading{"", 0, api.ErrLong}},
		{"[1]", math.MinInt, reading{"", 0, api.ErrLong}},
		{"x", 0, reading{"", 0, api.ErrLong}},
		{"x", 1, reading{"", 0, api.ErrForm}},
		{" x", 1, reading{"", 0, api.ErrLong}},
		{" x", 2, reading{"", 1, api.ErrForm}},
		{"", 0, reading{"", 0, api.ErrForm}},
		{"", -1, reading{"", 0, api.ErrLong}},
		{"", math.MinInt, reading{"", 0, api.ErrLong}},
	} {
		if got := read(c.s, c.most); got != c.want {
			t.Errorf("Read(%q, %d) = %v, want %v", c.s, c.most, got, c.want)
		}
	}
}

// P5.2: Read is Parse, but for the bound.
func TestReadIsParse(t *testing.T) {
	for _, c := range wrong {
		for _, most := range []int{len(c.s), len(c.s) + 1, api.MaxPart} {
			if got := read(c.s, most); got != (reading{"", c.at, c.e}) {
				t.Errorf("Read(%q, %d) = %v, want %d at %d", c.s, most, got, c.e, c.at)
			}
		}
	}
}

// P5.1, P5.3: a value comes again from its JSON; what is written the library reads, too.
func TestComesAgain(t *testing.T) {
	r := rand.New(rand.NewSource(1))
	for range 20000 {
		v := someValue(r, 1+r.Intn(6))
		s, e := json.Encode(v)
		if want := strings.Join(pieces(v), ""); s != want || e != api.OK {
			t.Fatalf("Encode(%v) = %q, %d, want %q", v, s, e, want)
		}
		w, at, e := json.Read(s, len(s))
		if !tree.Same(v, w) || at != -1 || e != api.OK {
			t.Fatalf("Read(%q) = %v, %d, %d", s, w, at, e)
		}
		var got any
		d := library.NewDecoder(strings.NewReader(s))
		d.UseNumber()
		if err := d.Decode(&got); err != nil || !reflect.DeepEqual(got, loose(v)) {
			t.Fatalf("the library reads %v, %v of %q", got, err, s)
		}
	}
}

func someBlanks(r *rand.Rand) string {
	s := ""
	for r.Intn(2) == 0 {
		s += string(" \t\n\r"[r.Intn(4)])
	}
	return s
}

// P5.3: blanks change nothing, wherever they may stand.
func TestBlanks(t *testing.T) {
	r := rand.New(rand.NewSource(2))
	for range 20000 {
		v := someValue(r, 1+r.Intn(5))
		s := someBlanks(r)
		for _, p := range pieces(v) {
			s += p + someBlanks(r)
		}
		w, at, e := json.Read(s, len(s))
		if !tree.Same(v, w) || at != -1 || e != api.OK {
			t.Fatalf("Read(%q) = %v, %d, %d, want %v", s, w, at, e, v)
		}
	}
}

// P5.2: a text that is cut off anywhere misses something; words and numbers are told where they begin.
func TestCutOff(t *testing.T) {
	r := rand.New(rand.NewSource(3))
	for range 3000 {
		v := list(someValue(r, 1+r.Intn(5)))
		l := pieces(v)
		for i := range l[:len(l)-1] {
			s := strings.Join(l[:i+1], " ")
			if got := read(s, len(s)); got != (reading{"", len(s), api.ErrForm}) {
				t.Fatalf("Read(%q) = %v", s, got)
			}
		}
	}
}

// P5.2, P5.3: what is read is what the tests' own reader reads.

// All texts of few signs.
func TestFewSigns(t *testing.T) {
	signs := []string{"[", "]", "{", "}", ",", ":", " ", `"a"`, "0", "1", "-", "\"", "null", "\\", "x"}
	var try func(s string, more int)
	try = func(s string, more int) {
		if got, want := parse(s), expected(s); got != want {
			t.Fatalf("Parse(%q) = %v, want %v", s, got, want)
		}
		if more == 0 {
			return
		}
		for _, c := range signs {
			try(s+c, more-1)
		}
	}
	try("", 5)
}

// Texts that were right, with some of them changed.
func TestChanged(t *testing.T) {
	r := rand.New(rand.NewSource(4))
	const put = "[]{},:\"\\-0019 \tnulltruefalse.u\x00\xff\xc3x"
	errors := map[api.Errno]int{}
	for range 60000 {
		l := pieces(someValue(r, 1+r.Intn(5)))
		if r.Intn(4) == 0 {
			// A key that its object may have already.
			for i := range l[1:] {
				if l[i+1] == ":" {
					l[i] = []string{`"a"`, `"\u0061"`, `"b"`}[r.Intn(3)]
				}
			}
		}
		s := []byte(strings.Join(l, []string{"", " "}[r.Intn(2)]))
		if r.Intn(4) == 0 {
			begin, _ := nesting(6+r.Intn(api.MaxDeep-6), r.Intn(1<<api.MaxDeep), "", false)
			s = append([]byte(begin), s...)
		}
		for range r.Intn(4) {
			i, c := r.Intn(len(s)+1), put[r.Intn(len(put))]
			switch j := min(i+1, len(s)); r.Intn(3) {
			case 0:
				s = slices.Insert(s, i, c)
			case 1:
				s = slices.Delete(s, i, j)
			case 2:
				s = slices.Replace(s, i, j, c)
			}
		}
		got, want := read(string(s), len(s)), expected(string(s))
		if got != want {
			t.Fatalf("Read(%q) = %v, want %v", s, got, want)
		}
		errors[got.e]++
	}
	for _, e := range []api.Errno{api.OK, api.ErrForm, api.ErrText, api.ErrDeep, api.ErrLong, api.ErrTwice} {
		if errors[e] < 20 {
			t.Errorf("error %d was met %d times", e, errors[e])
		}
	}
}

// R1: any bytes.
func TestAnyBytes(t *testing.T) {
	r := rand.New(rand.NewSource(5))
	for range 100000 {
		b := make([]byte, r.Intn(12))
		for i := range b {
			b[i] = byte(r.Intn(256))
		}
		if got, want := parse(string(b)), expected(string(b)); got != want {
			t.Fatalf("Parse(%q) = %v, want %v", b, got, want)
		}
	}
}

// R5: what is answered is new memory.
func TestMemory(t *testing.T) {
	s := strings.Clone(`{"key":["text",{"a":"b","":""}],"other":"text"}`)
	from := uintptr(unsafe.Pointer(unsafe.StringData(s)))
	apart := func(x string) {
		p := uintptr(unsafe.Pointer(unsafe.StringData(x)))
		if x != "" && from <= p && p < from+uintptr(len(s)) {
			t.Errorf("%q is in the text that was given", x)
		}
	}
	var all func(v api.Value)
	all = func(v api.Value) {
		apart(v.S)
		for _, x := range v.L {
			all(x)
		}
		for _, p := range v.F {
			apart(p.Key)
			all(p.V)
		}
	}
	v, _, e := json.Parse(s)
	if e != api.OK {
		t.Fatal(e)
	}
	all(v)
	f := []api.Pair{pair("a", null), pair("spare", null)}
	l := []api.Value{object(f[:1]...), {Kind: api.Object, F: f[:1]}, str("spare")}
	if s, e := json.Encode(api.Value{Kind: api.List, L: l[:2]}); s != `[{"a":null},{"a":null}]` || e != api.OK {
		t.Errorf("Encode = %q, %d", s, e)
	}
	if f[1].Key != "spare" || l[2].S != "spare" {
		t.Error("the spare room of what was handed in is changed")
	}
}

// P5.2: long lists, objects, texts and numbers take no longer than they must.
func TestGreat(t *testing.T) {
	const size = 200000
	l, o := list(), object()
	for i := range size {
		l.L = append(l.L, number(int64(i)))
		o.F = append(o.F, pair(strconv.Itoa(i), null))
	}
	for _, v := range []api.Value{l, o, str(strings.Repeat("\ufffd\n", size)), list(l, o, l)} {
		s, e := json.Encode(v)
		if e != api.OK {
			t.Fatal(e)
		}
		w, at, e := json.Read(s, api.MaxPart)
		if !tree.Same(v, w) || at != -1 || e != api.OK {
			t.Errorf("%d bytes: %d at %d", len(s), e, at)
		}
	}
	s, _ := json.Encode(o)
	again := s[:len(s)-1] + `,"199999":1}`
	if got := read(again, len(again)); got != (reading{"", len(s), api.ErrTwice}) {
		t.Errorf("a key again: %v", got)
	}
	for _, c := range []struct {
		s  string
		at int
		e  api.Errno
	}{
		{"[" + strings.Repeat("9", size), 1, api.ErrLong},
		{strings.Repeat("[", size), api.MaxDeep, api.ErrDeep},
		{strings.Repeat("{", size), 1, api.ErrForm},
		{strings.Repeat(" ", size), size, api.ErrForm},
		{`"` + strings.Repeat("a", size), size + 1, api.ErrForm},
		{strings.Repeat("0", size), 1, api.ErrForm},
	} {
		if got := read(c.s, size+1); got != (reading{"", c.at, c.e}) {
			t.Errorf("Read(%q..) = %v, want %d at %d", c.s[:3], got, c.e, c.at)
		}
	}
}
