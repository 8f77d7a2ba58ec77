package lit_test

import (
	"math"
	"math/rand"
	"strings"
	"testing"

	"cascade/api"
	"cascade/lit"
	"cascade/token"
)

const row = `"""`

func isDollar(x token.Token) bool {
	return x.Kind == 1 && x.S == "$"
}

// checkStands asks where a reader stands, and what it says of itself there.
func checkStands(t *testing.T, r *lit.Reader, at int, end bool, f api.Fault) {
	t.Helper()
	if r.At() != at || r.End() != end || r.Fault() != f {
		t.Errorf("At, End, Fault = %d, %v, %v, want %d, %v, %v", r.At(), r.End(), r.Fault(), at, end, f)
	}
}

// checkNothing asks a reader that has failed, or, of names and signs, one that stands at neither, for everything.
func checkNothing(t *testing.T, r *lit.Reader, failed bool) {
	t.Helper()
	for _, s := range []string{"", "a", "{", "}", "[", "$", "...", "1", "-1", "null", `"a"`, "\xff", " "} {
		if r.Is(s) || r.Take(s) {
			t.Errorf("Is or Take(%q) is true", s)
		}
	}
	if !failed {
		return
	}
	f := r.Fault()
	r.Must("a")
	r.Must("{")
	r.Fail(f.At+1, api.ErrSize)
	r.Fail(f.At-1, api.OK)
	if name, v, x := r.Name(), r.Value(12, false), r.Type(); name != "" || !zero(v) || x != (api.Type{}) {
		t.Errorf("Name, Value, Type = %q, %v, %v of what has failed", name, v, x)
	}
	checkStands(t, r, f.At, true, f)
}

// P9.2: where a reader stands, and how it goes on.
func TestReaderGoesOn(t *testing.T) {
	r := lit.NewReader(" query A { ...on # {\n a:$v } # end")
	checkStands(t, r, 1, false, api.Fault{})
	if !r.Is("query") || r.Is("Query") || r.Is("quer") || r.Is("query ") || r.Is("A") || r.Is("") || r.Take("A") || !r.Take("query") {
		t.Error("query")
	}
	checkStands(t, r, 7, false, api.Fault{})
	if r.Name() != "A" {
		t.Error("A")
	}
	checkStands(t, r, 9, false, api.Fault{})
	r.Must("{")
	checkStands(t, r, 11, false, api.Fault{})
	if !r.Is("...") || r.Is(".") || r.Is("..") || !r.Take("...") || r.Take("...") {
		t.Error("three points")
	}
	r.Must("on")
	checkStands(t, r, 22, false, api.Fault{})
	if r.Is("a:") || r.Name() != "a" || !r.Take(":") || !r.Take("$") || r.Name() != "v" {
		t.Error("a: $v")
	}
	checkStands(t, r, 27, false, api.Fault{})
	r.Must("}")
	checkStands(t, r, 34, true, api.Fault{})
	checkNothing(t, r, false)
	checkStands(t, r, 34, true, api.Fault{})
}

// P9.2: strings and numbers that look like signs or names are neither.
func TestReaderLooksAlike(t *testing.T) {
	for _, s := range []string{`"a"`, `"{"`, `"..."`, `"null"`, `""`, "1", "-1", "0", `"""a"""`, `"""{"""`, `"1"`} {
		r := lit.NewReader(s)
		checkNothing(t, r, false)
		checkStands(t, r, 0, false, api.Fault{})
		if r.Name() != "" {
			t.Errorf("Name of %s", s)
		}
		checkStands(t, r, 0, true, api.Fault{E: api.ErrForm})
		checkNothing(t, r, true)
		r = lit.NewReader("a " + s + " a")
		r.Must("a")
		r.Must("a")
		checkStands(t, r, 2, true, api.Fault{E: api.ErrForm, At: 2})
		checkNothing(t, r, true)
	}
	for _, s := range []string{"{", "!", "...", "$", "|", "@"} {
		r := lit.NewReader(s)
		if !r.Is(s) || r.Name() != "" || r.Fault() != (api.Fault{E: api.ErrForm}) {
			t.Errorf("Name of %s: %v", s, r.Fault())
		}
		checkNothing(t, r, true)
	}
}

// P9.2: what each function answers at the end.
func TestReaderAtEnd(t *testing.T) {
	for _, s := range []string{"", " ", "# a", " ,\n#\n ", "a"} {
		for _, ask := range []func(r *lit.Reader){
			func(r *lit.Reader) { r.Must("a") },
			func(r *lit.Reader) { r.Must("") },
			func(r *lit.Reader) { r.Name() },
			func(r *lit.Reader) { r.Value(12, false) },
			func(r *lit.Reader) { r.Value(0, true) },
			func(r *lit.Reader) { r.Type() },
		} {
			r := lit.NewReader(s)
			r.Take("a")
			checkStands(t, r, len(s), true, api.Fault{})
			checkNothing(t, r, false)
			ask(r)
			checkStands(t, r, len(s), true, api.Fault{E: api.ErrForm, At: len(s)})
			checkNothing(t, r, true)
		}
	}
}

// P9.2: a reader of a text that layer 8 refuses.
func TestReaderOfNoTokens(t *testing.T) {
	for _, c := range []struct {
		s string
		f api.Fault
	}{
		{"?", api.Fault{E: api.ErrToken}}, {"a ?", api.Fault{E: api.ErrToken, At: 2}}, {"01", api.Fault{E: api.ErrToken, At: 1}}, {`{ a: "b`, api.Fault{E: api.ErrToken, At: 7}},
		{"\xff", api.Fault{E: api.ErrText}}, {"a # \xff", api.Fault{E: api.ErrText, At: 4}},
		{strings.Repeat("a", 4001), api.Fault{E: api.ErrLong}}, {strings.Repeat("{", 901), api.Fault{E: api.ErrLong, At: 900}},
	} {
		r := lit.NewReader(c.s)
		checkStands(t, r, c.f.At, true, c.f)
		checkNothing(t, r, true)
		if v, f := lit.ParseValue(c.s, false); f != c.f || !zero(v) {
			t.Errorf("ParseValue(%q) = %v, %v, want %v", c.s, v, f, c.f)
		}
		if x, f := lit.ParseType(c.s); f != c.f || x != (api.Type{}) {
			t.Errorf("ParseType(%q) = %v, %v, want %v", c.s, x, f, c.f)
		}
	}
}

// P9.2: Fail: at any place, of any error, but of OK nothing; and once alone.
func TestFail(t *testing.T) {
	for _, f := range []api.Fault{{E: api.ErrForm}, {E: api.ErrTwice, At: 2}, {E: api.ErrSize, At: 1000}, {E: api.ErrArg, At: -5}, {E: 99, At: math.MaxInt}, {E: -1, At: math.MinInt}} {
		r := lit.NewReader("a b c")
		for _, at := range []int{0, 3, -1, 99} {
			r.Fail(at, api.OK)
		}
		checkStands(t, r, 0, false, api.Fault{})
		r.Name()
		r.Fail(f.At, api.OK)
		checkStands(t, r, 2, false, api.Fault{})
		r.Fail(f.At, f.E)
		checkStands(t, r, f.At, true, f)
		r.Fail(0, api.OK)
		r.Fail(0, api.ErrNull)
		checkNothing(t, r, true)
		checkStands(t, r, f.At, true, f)
	}
	r := lit.NewReader("a")
	r.Name()
	r.Fail(0, api.ErrName)
	checkStands(t, r, 0, true, api.Fault{E: api.ErrName})
}

// R7: two readers of one text don't hang on one another.
func TestTwoReaders(t *testing.T) {
	q, r := lit.NewReader("a b"), lit.NewReader("a b")
	q.Name()
	checkStands(t, r, 0, false, api.Fault{})
	q.Must("a")
	checkStands(t, r, 0, false, api.Fault{})
	if r.Name() != "a" || r.Name() != "b" || q.Name() != "" {
		t.Error("a reader hangs on another one")
	}
}

// wanted is a text, how much of it a literal is, and what that is as it is written.
type wanted struct {
	s    string
	at   int
	want string
}

// P9.3: literals, by hand, and where a reader stands behind them.
func TestValue(t *testing.T) {
	for _, c := range []wanted{
		{"null", 4, "null"}, {"true", 4, "true"}, {"false x", 6, "false"}, {"RED", 3, "RED"}, {"nul", 3, "nul"}, {"True", 4, "True"}, {"$v", 2, "$v"}, {"$ v w", 4, "$v"}, {"$null", 5, "$null"}, {"$\n#\nv", 5, "$v"},
		{"0", 1, "0"}, {"-12 3", 4, "-12"}, {"9007199254740991", 16, "9007199254740991"}, {"-9007199254740991", 17, "-9007199254740991"},
		{`""`, 2, `""`}, {`"a\u0041\/" b`, 12, `"aA/"`}, {row + "\n  a\n   b\n" + row, 16, `"a\n b"`}, {`"null"`, 6, `"null"`}, {`"a""b"`, 3, `"a"`},
		{"[]", 2, "[]"}, {"[ ] ]", 4, "[]"}, {"[1 2,3,,4]", 10, "[1, 2, 3, 4]"}, {"[[][]]", 6, "[[], []]"}, {"[a $a \"a\" null{}]", 17, `[a, $a, "a", null, {}]`},
		{"{}", 2, "{}"}, {"{a:1}", 5, "{a: 1}"}, {"{a:1b:2}", -1, ""}, {"{a:1 b:2}", 9, "{a: 1, b: 2}"}, {"{null:null,true:true,false:$false}", 34, "{null: null, true: true, false: $false}"},
		{"{a:{a:{a:[{a:1}]}}b:{a:[]}}!", 27, "{a: {a: {a: [{a: 1}]}}, b: {a: []}}"}, {"{b:1,a:2,B:3}", 13, "{b: 1, a: 2, B: 3}"},
	} {
		r := lit.NewReader(c.s)
		v := r.Value(12, false)
		if c.at < 0 {
			if !zero(v) || r.Fault().E != api.ErrToken {
				t.Errorf("Value of %q = %v, %v", c.s, v, r.Fault())
			}
			continue
		}
		if s, e := lit.ShowValue(v); s != c.want || e != api.OK || r.At() != c.at || r.Fault() != (api.Fault{}) {
			t.Errorf("Value of %q = %q, at %d, %v, want %q, at %d", c.s, s, r.At(), r.Fault(), c.want, c.at)
		}
		checkValue(t, c.s, 12, false)
		checkValue(t, c.s, 12, true)
	}
}

// refused is a text, how it is read, and how that should fail.
type refused struct {
	s        string
	deep     int
	constant bool
	e        api.Errno
	at       int
}

// P9.3: what fails, by hand, and which is met first where two could be told.
func TestValueFails(t *testing.T) {
	for _, c := range []refused{
		// what can't stand there
		{"", 12, false, api.ErrForm, 0}, {"  ", 12, false, api.ErrForm, 2}, {"]", 12, false, api.ErrForm, 0}, {"}", 12, false, api.ErrForm, 0}, {" :", 12, false, api.ErrForm, 1}, {"...", 12, false, api.ErrForm, 0}, {"!", 12, false, api.ErrForm, 0}, {"(1)", 12, false, api.ErrForm, 0}, {"= 1", 12, false, api.ErrForm, 0}, {"@a", 12, false, api.ErrForm, 0},
		{"$", 12, false, api.ErrForm, 1}, {"$ # v", 12, false, api.ErrForm, 5}, {"$1", 12, false, api.ErrForm, 1}, {`$"v"`, 12, false, api.ErrForm, 1}, {"$$v", 12, false, api.ErrForm, 1}, {"$ ]", 12, false, api.ErrForm, 2},
		{"[", 12, false, api.ErrForm, 1}, {"[1", 12, false, api.ErrForm, 2}, {"[1 }", 12, false, api.ErrForm, 3}, {"[:]", 12, false, api.ErrForm, 1}, {"[1:2]", 12, false, api.ErrForm, 2}, {"[$]", 12, false, api.ErrForm, 2}, {"[[1]", 12, false, api.ErrForm, 4},
		{"{", 12, false, api.ErrForm, 1}, {"{1:2}", 12, false, api.ErrForm, 1}, {`{"a":2}`, 12, false, api.ErrForm, 1}, {"{$a:2}", 12, false, api.ErrForm, 1}, {"{:2}", 12, false, api.ErrForm, 1}, {"{]", 12, false, api.ErrForm, 1}, {"{{}}", 12, false, api.ErrForm, 1},
		{"{a", 12, false, api.ErrForm, 2}, {"{a}", 12, false, api.ErrForm, 2}, {"{a 1}", 12, false, api.ErrForm, 3}, {"{a=1}", 12, false, api.ErrForm, 2}, {"{a:", 12, false, api.ErrForm, 3}, {"{a:}", 12, false, api.ErrForm, 3}, {"{a:1", 12, false, api.ErrForm, 4}, {"{a:1]", 12, false, api.ErrForm, 4}, {"{a::1}", 12, false, api.ErrForm, 3}, {"{a:1 2}", 12, false, api.ErrForm, 5}, {"{a:1 b}", 12, false, api.ErrForm, 6},
		// Refs where there may be none
		{"$v", 12, true, api.ErrForm, 0}, {" $", 12, true, api.ErrForm, 1}, {"[1 $v]", 12, true, api.ErrForm, 3}, {"{a: {b: $v}}", 12, true, api.ErrForm, 8}, {"{a: $v, a: 1}", 12, true, api.ErrForm, 4}, {"[$ 1]", 12, true, api.ErrForm, 1},
		// too deep, whatever stands there, but not at the end
		{"1", 0, false, api.ErrDeep, 0}, {"]", 0, false, api.ErrDeep, 0}, {" :", 0, false, api.ErrDeep, 1}, {"$v", 0, true, api.ErrDeep, 0}, {"$v", 0, false, api.ErrDeep, 0}, {"1", -1, false, api.ErrDeep, 0}, {"1", math.MinInt, false, api.ErrDeep, 0}, {"", 0, false, api.ErrForm, 0}, {" ", -7, true, api.ErrForm, 1},
		{"[1]", 1, false, api.ErrDeep, 1}, {"[ [", 1, false, api.ErrDeep, 2}, {"[$v]", 1, true, api.ErrDeep, 1}, {"[)", 1, false, api.ErrDeep, 1}, {"[}", 1, false, api.ErrDeep, 1}, {"[", 1, false, api.ErrForm, 1},
		{"{a:1}", 1, false, api.ErrDeep, 3}, {"{a:}", 1, false, api.ErrDeep, 3}, {"{a:", 1, false, api.ErrForm, 3}, {"{a 1}", 1, false, api.ErrForm, 3}, {"{a}", 1, false, api.ErrForm, 2}, {"{1}", 1, false, api.ErrForm, 1}, {"{", 1, false, api.ErrForm, 1}, {"{a:$v}", 1, true, api.ErrDeep, 3},
		{"[[] {} [1]]", 2, false, api.ErrDeep, 8}, {"{a:{} b:{a:{}}}", 2, false, api.ErrDeep, 11}, {"[1 [2 [3]]]", 3, false, api.ErrDeep, 7},
		{"[[[[[[[[[[[[1]]]]]]]]]]]]", 12, false, api.ErrDeep, 12}, {"[[[[[[[[[[[[[", 12, false, api.ErrDeep, 12}, {"[[[[[[[[[[[[", 12, false, api.ErrForm, 12},
		// keys that their object has
		{"{a:1 a:2}", 12, false, api.ErrTwice, 5}, {"{a:1 a}", 12, false, api.ErrTwice, 5}, {"{a:1 a", 12, false, api.ErrTwice, 5}, {"{a:1 b:2 a 3}", 12, false, api.ErrTwice, 9}, {"{a:1,b:[{c:1,d:2,c:3}]}", 12, false, api.ErrTwice, 17}, {"{null:1 null:2}", 12, false, api.ErrTwice, 8},
		{"{a:{b:1} b:2 a:3}", 12, false, api.ErrTwice, 13}, {"{a:1 a:2}", 1, false, api.ErrDeep, 3}, {"{a:1 a:$v}", 12, true, api.ErrTwice, 5}, {"{a:1 a:[[", 2, false, api.ErrTwice, 5}, {"{a:1 b:[[ a:1", 2, false, api.ErrDeep, 8}, {"{a:1 b:} a:2", 12, false, api.ErrForm, 7},
	} {
		r := lit.NewReader(c.s)
		if v := r.Value(c.deep, c.constant); !zero(v) || r.Fault() != (api.Fault{E: c.e, At: c.at}) {
			t.Errorf("Value(%d, %v) of %q = %v, %v, want %d at %d", c.deep, c.constant, c.s, v, r.Fault(), c.e, c.at)
		}
		checkNothing(t, r, true)
		checkValue(t, c.s, c.deep, c.constant)
	}
}

// P9.3: a level more and a level less, at each depth, up to more than MaxDeep.
func TestValueDeep(t *testing.T) {
	for n := range 40 {
		lists := strings.Repeat("[", n) + strings.Repeat("]", n)
		mixed := strings.Repeat("{a:[", n) + strings.Repeat("]}", n)
		for deep := n - 1; deep <= n+1; deep++ {
			if got := checkValue(t, lists, deep, false); got != (n > 0 && deep >= n) {
				t.Errorf("Value(%d) of %d lists: %v", deep, n, got)
			}
			checkValue(t, strings.Repeat("[", n)+"1"+strings.Repeat("]", n), deep, true)
		}
		for deep := 2*n - 2; deep <= 2*n+1; deep++ {
			if got := checkValue(t, mixed, deep, true); got != (n > 0 && deep >= 2*n) {
				t.Errorf("Value(%d) of %d objects and lists: %v", deep, n, got)
			}
		}
		if v, f := lit.ParseValue(lists, true); n > 0 && (f.E == api.OK) != (n <= 12) || n > 12 && (f != api.Fault{E: api.ErrDeep, At: 12} || !zero(v)) {
			t.Errorf("ParseValue of %d lists: %v", n, f)
		}
	}
	for _, deep := range []int{450, math.MaxInt} {
		r := lit.NewReader(strings.Repeat("[", 450) + strings.Repeat("]", 450))
		if v := r.Value(deep, false); v.Kind != api.List || r.Fault() != (api.Fault{}) || !r.End() {
			t.Errorf("Value(%d) of 450 lists: %v", deep, r.Fault())
		}
	}
	checkValue(t, strings.Repeat("[", 900), math.MaxInt, true)
}

// P9.3, P9.4: types, by hand.
func TestType(t *testing.T) {
	for _, c := range []struct {
		s  string
		x  api.Type
		at int
	}{
		{"Int", api.Type{Name: "Int"}, 3}, {"Int !", api.Type{Name: "Int", Wraps: "!"}, 5}, {"[Int]", api.Type{Name: "Int", Wraps: "["}, 5}, {"[Int!]!", api.Type{Name: "Int", Wraps: "![!"}, 7}, {"[ [ Int ] ! ]", api.Type{Name: "Int", Wraps: "[!["}, 13},
		{"[[[[a!]!]!]!]!", api.Type{Name: "a", Wraps: "![![![![!"}, 14}, {"null", api.Type{Name: "null"}, 4}, {"Int!!", api.Type{Name: "Int", Wraps: "!"}, 4}, {"a]", api.Type{Name: "a"}, 1}, {"a b", api.Type{Name: "a"}, 2}, {"[a]![", api.Type{Name: "a", Wraps: "[!"}, 4}, {"[a] [[[[b]]]]", api.Type{Name: "a", Wraps: "["}, 4},
	} {
		r := lit.NewReader(c.s)
		if x := r.Type(); x != c.x || r.At() != c.at || r.Fault() != (api.Fault{}) {
			t.Errorf("Type of %q = %v, at %d, %v, want %v, at %d", c.s, x, r.At(), r.Fault(), c.x, c.at)
		}
		checkType(t, c.s)
	}
	for _, c := range []struct {
		s string
		f api.Fault
	}{
		{"", api.Fault{E: api.ErrForm}}, {" #", api.Fault{E: api.ErrForm, At: 2}}, {"!", api.Fault{E: api.ErrForm}}, {"1", api.Fault{E: api.ErrForm}}, {`"Int"`, api.Fault{E: api.ErrForm}}, {"]", api.Fault{E: api.ErrForm}}, {"$a", api.Fault{E: api.ErrForm}},
		{"[", api.Fault{E: api.ErrForm, At: 1}}, {"[]", api.Fault{E: api.ErrForm, At: 1}}, {"[!a]", api.Fault{E: api.ErrForm, At: 1}}, {"[a", api.Fault{E: api.ErrForm, At: 2}}, {"[a!", api.Fault{E: api.ErrForm, At: 3}}, {"[a!!]", api.Fault{E: api.ErrForm, At: 3}}, {"[a b]", api.Fault{E: api.ErrForm, At: 3}}, {"[[a]", api.Fault{E: api.ErrForm, At: 4}}, {"[[a]!!]", api.Fault{E: api.ErrForm, At: 5}}, {"[a}", api.Fault{E: api.ErrForm, At: 2}},
		{"[[[[[a]]]]]", api.Fault{E: api.ErrDeep, At: 4}}, {"[[[[[", api.Fault{E: api.ErrDeep, At: 4}}, {"[[[[ [[ a", api.Fault{E: api.ErrDeep, At: 5}}, {"[[[[", api.Fault{E: api.ErrForm, At: 4}}, {"[[[[]", api.Fault{E: api.ErrForm, At: 4}}, {"[[[[a]]]", api.Fault{E: api.ErrForm, At: 8}},
	} {
		r := lit.NewReader(c.s)
		if x := r.Type(); x != (api.Type{}) || r.Fault() != c.f {
			t.Errorf("Type of %q = %v, %v, want %v", c.s, x, r.Fault(), c.f)
		}
		checkNothing(t, r, true)
		checkType(t, c.s)
	}
}

// P9.4: what stands behind a literal or a type.
func TestParseBehind(t *testing.T) {
	for _, s := range []string{"1", "null", "$v", `"a"`, "[1]", "{a: [b]}", "E"} {
		for _, blank := range []string{"", " ", "\n,", "#a\r", " # [\n"} {
			if v, f := lit.ParseValue(blank+s+blank, false); f != (api.Fault{}) || zero(v) != (s == "null") {
				t.Errorf("ParseValue(%q) = %v, %v", blank+s+blank, v, f)
			}
			for _, more := range []string{"!", " 1", "]", "}", " a", ":", `"`, "$"} {
				whole := blank + s + blank + more
				if v, f := lit.ParseValue(whole, false); f.E == api.OK || !zero(v) {
					t.Errorf("ParseValue(%q) = %v, %v", whole, v, f)
				}
				checkValue(t, whole, 12, false)
			}
		}
	}
	for _, c := range []struct {
		s string
		f api.Fault
	}{
		{"1 2", api.Fault{E: api.ErrForm, At: 2}}, {"[] , ]", api.Fault{E: api.ErrForm, At: 5}}, {"$v $w", api.Fault{E: api.ErrForm, At: 3}}, {"a:1", api.Fault{E: api.ErrForm, At: 1}}, {"1 ?", api.Fault{E: api.ErrToken, At: 2}}, {"$v ?", api.Fault{E: api.ErrToken, At: 3}}, {"1#", api.Fault{}},
	} {
		if _, f := lit.ParseValue(c.s, false); f != c.f {
			t.Errorf("ParseValue(%q): %v, want %v", c.s, f, c.f)
		}
	}
	for _, c := range []struct {
		s string
		f api.Fault
	}{
		{"Int!!", api.Fault{E: api.ErrForm, At: 4}}, {"Int Int", api.Fault{E: api.ErrForm, At: 4}}, {"[a]]", api.Fault{E: api.ErrForm, At: 3}}, {"a[", api.Fault{E: api.ErrForm, At: 1}}, {"a! , b", api.Fault{E: api.ErrForm, At: 5}}, {"a 01", api.Fault{E: api.ErrToken, At: 3}}, {" a # b", api.Fault{}}, {",[a],!,", api.Fault{}},
	} {
		if x, f := lit.ParseType(c.s); f != c.f || (f.E == api.OK) != (x.Name == "a") {
			t.Errorf("ParseType(%q): %v, %v, want %v", c.s, x, f, c.f)
		}
	}
}

// P9.3 to P9.5: rows of few pieces, all of them, at several depths.
func TestRows(t *testing.T) {
	read, failed := 0, 0
	each := func(s string) {
		for deep := range 4 {
			for _, constant := range []bool{false, true} {
				if checkValue(t, s, deep, constant) {
					read++
				} else {
					failed++
				}
			}
		}
		checkValue(t, s, 12, false)
	}
	allRows(5, []string{"[", "]", "{", "}", "a ", ":", "$", "1 "}, each)
	allRows(4, []string{"[", "]", "{", "}", "null ", "a:", "b:", "$", "...", `""`, "!", "?"}, each)
	allRows(5, []string{"{", "}", "a:", "b:", "a ", "1 "}, each)
	allRows(9, []string{"[", "]", "$a "}, each)
	if read < 10000 || failed < 10000 {
		t.Errorf("%d were read, %d failed", read, failed)
	}
	read, failed = 0, 0
	types := func(s string) {
		if checkType(t, s) {
			read++
		} else {
			failed++
		}
	}
	allRows(9, []string{"[", "]", "!", "a "}, types)
	allRows(4, []string{"[", "]", "!", "a ", "1 ", `"a"`, "{", "$", "?", "#"}, types)
	if read < 100 || failed < 10000 {
		t.Errorf("%d types were read, %d failed", read, failed)
	}
}

// pieces answers literals, types, signs and names in a row by chance.
func pieces(r *rand.Rand) string {
	var b strings.Builder
	for range r.Intn(12) {
		switch r.Intn(4) {
		case 0:
			v := chance(r, 1+r.Intn(4))
			s, _ := lit.ShowValue(v)
			b.WriteString(s)
		case 1:
			s, _ := lit.ShowType(api.Type{Name: some(r, "a", "Int"), Wraps: some(r, "", "!", "[", "![", "[!", "![![!", "[[[[")})
			b.WriteString(s)
		default:
			b.WriteString(some(r, "{", "}", "[", "]", ":", "$", "!", "...", "a", "b", "null", "1", `"a"`, "(", "="))
		}
		b.WriteString(some(r, " ", ", ", "\n", " #\n"))
	}
	return b.String()
}

// P9.3 to P9.5: literals that are cut off, or have something else in them, by chance.
func TestValuesByChance(t *testing.T) {
	r := rand.New(rand.NewSource(2))
	for range 20000 {
		v := chance(r, 1+r.Intn(6))
		s, _ := lit.ShowValue(v)
		for _, deep := range []int{r.Intn(6), 12} {
			checkValue(t, s, deep, r.Intn(2) == 0)
			cut := r.Intn(len(s) + 1)
			checkValue(t, s[:cut], deep, false)
			checkValue(t, s[:cut]+some(r, "]", "}", "$", " 1 ", "a:", "{", "[", " ")+s[cut:], deep, r.Intn(2) == 0)
		}
		p := pieces(r)
		checkValue(t, p, 12, r.Intn(2) == 0)
		checkType(t, p)
	}
}

// P9.2 to P9.4: calls in any order, against the second reading.
func TestReaderByChance(t *testing.T) {
	r := rand.New(rand.NewSource(3))
	ended := map[api.Errno]int{}
	for range 20000 {
		s := pieces(r)
		m, got := newModel(s), lit.NewReader(s)
		for range r.Intn(12) {
			step(t, r, m, got)
		}
		ended[m.f.E]++
	}
	if ended[api.OK] < 100 || ended[api.ErrForm] < 1000 || ended[api.ErrDeep] < 100 || ended[api.ErrTwice] < 1 {
		t.Errorf("readers ended so: %v", ended)
	}
}

// step makes one call by chance of both a reader and its second reading.
func step(t *testing.T, r *rand.Rand, m *model, got *lit.Reader) {
	t.Helper()
	failed := m.f.E != api.OK
	s := some(r, "a", "{", "}", "[", "]", ":", "$", "!", "...", "null", "1", "", "(", "=")
	if !failed && len(m.l) > 0 && r.Intn(2) == 0 {
		s = m.l[0].S
	}
	is := !failed && m.is(0, s)
	move := func(n int, f api.Fault) {
		if failed {
			return
		}
		if m.f = f; f.E == api.OK {
			m.l = m.l[n:]
		}
	}
	_, unfit := m.wrong(0, api.ErrForm)
	switch r.Intn(9) {
	case 0, 1:
		if got.Take(s) != is {
			t.Fatalf("Take(%q) at %v isn't %v", s, m, is)
		}
		if is {
			move(1, api.Fault{})
		}
	case 2:
		got.Must(s)
		if is {
			move(1, api.Fault{})
		} else {
			move(0, unfit)
		}
	case 3:
		named := !failed && len(m.l) > 0 && m.l[0].Kind == 2
		name := got.Name()
		if named && name != m.l[0].S || !named && name != "" {
			t.Fatalf("Name at %v is %q", m, name)
		}
		if named {
			move(1, api.Fault{})
		} else {
			move(0, unfit)
		}
	case 4, 5:
		deep, constant := r.Intn(4), r.Intn(2) == 0
		n, f := m.value(deep, constant)
		v := got.Value(deep, constant)
		if read := !failed && f.E == api.OK; read && !isLiteral(v, m.l[:n]) || !read && !zero(v) {
			t.Fatalf("Value(%d, %v) at %v is %v", deep, constant, m, v)
		}
		move(n, f)
	case 6, 7:
		x, n, f := m.typ()
		if failed {
			x = api.Type{}
		}
		if y := got.Type(); y != x {
			t.Fatalf("Type at %v is %v", m, y)
		}
		move(n, f)
	case 8:
		at, e := r.Intn(20), some(r, api.OK, api.OK, api.OK, api.ErrTwice)
		got.Fail(at, e)
		if e != api.OK {
			move(0, api.Fault{E: e, At: at})
		}
	}
	checkModel(t, m, got, s)
}

// checkModel asks where a reader and its second reading stand.
func checkModel(t *testing.T, m *model, got *lit.Reader, s string) {
	t.Helper()
	failed := m.f.E != api.OK
	at := m.at(0)
	if failed {
		at = m.f.At
	}
	if got.Fault() != m.f || got.At() != at || got.End() != (failed || len(m.l) == 0) || got.Is(s) != (!failed && m.is(0, s)) {
		t.Fatalf("Fault, At, End, Is(%q) = %v, %d, %v, %v at %v", s, got.Fault(), got.At(), got.End(), got.Is(s), m)
	}
}
