package lit_test

import (
	"math"
	"math/rand"
	"slices"
	"strconv"
	"strings"
	"testing"

	"cascade/api"
	"cascade/lit"
)

func list(l ...api.Value) api.Value {
	return api.Value{Kind: api.List, L: l}
}

func object(l ...api.Pair) api.Value {
	return api.Value{Kind: api.Object, F: l}
}

func pair(key string, v api.Value) api.Pair {
	return api.Pair{Key: key, V: v}
}

func number(n int64) api.Value {
	return api.Value{Kind: api.Int, N: n}
}

func quoted(s string) api.Value {
	return api.Value{Kind: api.String, S: s}
}

func enum(s string) api.Value {
	return api.Value{Kind: api.Enum, S: s}
}

func ref(s string) api.Value {
	return api.Value{Kind: api.Ref, S: s}
}

func null() api.Value {
	return api.Value{Kind: api.Null}
}

func truth(n int64) api.Value {
	return api.Value{Kind: api.Bool, N: n}
}

// nested answers v in so many lists, objects, or both by turns.
func nested(v api.Value, levels, how int) api.Value {
	for i := range levels {
		if how == 0 || how == 2 && i%2 == 0 {
			v = list(v)
		} else {
			v = object(pair("a", v))
		}
	}
	return v
}

// checkRight holds what P9.1 says of v against what is wanted.
func checkRight(t *testing.T, v api.Value, right, constant bool) {
	t.Helper()
	if lit.RightValue(v) != right || lit.Constant(v) != constant {
		t.Errorf("RightValue(%v), Constant = %v, %v, want %v, %v", v, lit.RightValue(v), lit.Constant(v), right, constant)
	}
	if s, e := lit.ShowValue(v); (e == api.OK) != right || !right && (s != "" || e != api.ErrArg) {
		t.Errorf("ShowValue(%v) = %q, %v", v, s, e)
	}
	if right {
		checkShow(t, v, false)
	}
}

// wraps calls what it is handed with v alone, and in lists and objects, first and last.
func wraps(v api.Value, each func(v api.Value)) {
	each(v)
	each(list(v))
	each(list(null(), v))
	each(list(v, null()))
	each(object(pair("k", v)))
	each(object(pair("j", number(1)), pair("k", v)))
	each(object(pair("k", v), pair("j", number(1))))
	each(list(object(pair("k", list(enum("E"), v)))))
	each(nested(v, 11, 2))
}

// ordinary are right literals: those that are constant, and those that aren't.
func ordinary() ([]api.Value, []api.Value) {
	constant := []api.Value{
		null(), truth(0), truth(1), number(0), number(-1), number(9007199254740991), number(-9007199254740991),
		quoted(""), quoted("a"), quoted("null"), quoted("$a"), quoted("\x00\"\\\n\u20ac"), quoted("\ufffd"), quoted(`"""`),
		list(), {Kind: api.List, L: []api.Value{}, F: []api.Pair{}}, object(), {Kind: api.Object, F: []api.Pair{}, L: []api.Value{}},
		{Kind: api.Null, L: []api.Value{}, F: []api.Pair{}}, {Kind: api.Enum, S: "A", L: []api.Value{}, F: []api.Pair{}},
		enum("a"), enum("RED"), enum("_"), enum("_9a"), enum("nul"), enum("nulls"), enum("Null"), enum("TRUE"), enum("truefalse"), enum("on"), enum("query"),
		list(null(), enum("a"), number(3)), list(list(), list(list())), object(pair("null", null()), pair("true", truth(0)), pair("_", object())),
		object(pair("a", number(1)), pair("A", number(1)), pair("a1", number(1))),
	}
	refs := []api.Value{
		ref("a"), ref("_"), ref("v1"), ref("null"), ref("true"), ref("false"), ref("A_0"),
		list(ref("a")), list(null(), ref("a"), ref("a")), object(pair("a", ref("a")), pair("b", ref("a"))), list(list(list(ref("x")))), object(pair("a", list(object(pair("a", ref("a")))))),
	}
	return constant, refs
}

// P9.1: right literals, alone and in others.
func TestRightLiterals(t *testing.T) {
	constant, refs := ordinary()
	for _, v := range constant {
		checkRight(t, v, true, true)
	}
	for _, v := range refs {
		checkRight(t, v, true, false)
	}
	for _, v := range []api.Value{null(), truth(1), number(-5), quoted("q\n"), list(), object(), enum("E")} {
		wraps(v, func(v api.Value) { checkRight(t, v, true, true) })
	}
	wraps(ref("null"), func(v api.Value) { checkRight(t, v, true, false) })
}

// P9.1: what is wrong alone makes wrong what it is in.
func TestWrongLiterals(t *testing.T) {
	one := []api.Value{null()}
	pairs := []api.Pair{pair("a", null())}
	for _, v := range []api.Value{
		// Kinds that are none
		{Kind: -1}, {Kind: 8}, {Kind: 8, S: "a"}, {Kind: 9, N: 1}, {Kind: math.MinInt}, {Kind: math.MaxInt, S: "a"}, {Kind: 1 << 32}, {Kind: 256 + api.Enum, S: "a"}, {Kind: -api.Ref, S: "a"},
		// what a Kind doesn't use
		{Kind: api.Null, N: 1}, {Kind: api.Null, S: "a"}, {Kind: api.Null, L: one}, {Kind: api.Null, F: pairs},
		{Kind: api.Bool, S: "a"}, {Kind: api.Bool, L: one}, {Kind: api.Bool, F: pairs},
		{Kind: api.Int, S: "1"}, {Kind: api.Int, L: one}, {Kind: api.Int, F: pairs},
		{Kind: api.String, N: -1, S: "a"}, {Kind: api.String, L: one}, {Kind: api.String, F: pairs},
		{Kind: api.List, N: 1}, {Kind: api.List, S: "a"}, {Kind: api.List, F: pairs}, {Kind: api.List, L: one, F: pairs},
		{Kind: api.Object, N: 1}, {Kind: api.Object, S: "a"}, {Kind: api.Object, L: one}, {Kind: api.Object, L: one, F: pairs},
		{Kind: api.Enum, S: "a", N: 1}, {Kind: api.Enum, S: "a", L: one}, {Kind: api.Enum, S: "a", F: pairs},
		{Kind: api.Ref, S: "a", N: -1}, {Kind: api.Ref, S: "a", L: one}, {Kind: api.Ref, S: "a", F: pairs},
		// what a Kind uses
		truth(2), truth(-1), truth(math.MinInt64), number(9007199254740992), number(-9007199254740992), number(math.MaxInt64), number(math.MinInt64),
		quoted("\xff"), quoted("a\xc3("), quoted("\xed\xa0\x80"), quoted("\ufffd\xe2\x82"), quoted("\xc0\x80"),
		enum("null"), enum("true"), enum("false"),
		{Kind: api.List, L: []api.Value{{Kind: 8}}}, object(pair("a", api.Value{Kind: 8})),
	} {
		wraps(v, func(v api.Value) { checkRight(t, v, false, false) })
	}
	for _, s := range []string{"", " ", "9", "9a", "-a", "a b", "a ", " a", "a-b", "a.b", "$a", "a!", `"a"`, "a\n", "a\x00", "\u00e9", "a\u00e9", "\uff21", "\xff", "a\xff", "{", "...", "#a", "a,"} {
		for _, v := range []api.Value{enum(s), ref(s), object(pair(s, null())), object(pair("a", null()), pair(s, null())), object(pair(s, null()), pair("a", null()))} {
			wraps(v, func(v api.Value) { checkRight(t, v, false, false) })
		}
	}
	// beside a Ref, too
	checkRight(t, list(ref("a"), enum("null")), false, false)
	checkRight(t, list(enum("null"), ref("a")), false, false)
}

// P9.1: keys that come twice.
func TestTwoKeys(t *testing.T) {
	for _, v := range []api.Value{
		object(pair("a", null()), pair("a", null())),
		object(pair("a", number(1)), pair("b", number(2)), pair("a", number(3))),
		object(pair("b", null()), pair("a", null()), pair("a", null())),
		object(pair("null", null()), pair("null", null())),
	} {
		wraps(v, func(v api.Value) { checkRight(t, v, false, false) })
	}
	// one key in two objects is no key twice
	checkRight(t, object(pair("a", object(pair("a", object(pair("a", null())))))), true, true)
	checkRight(t, list(object(pair("a", null())), object(pair("a", null()))), true, true)
	var many []api.Pair
	for i := range 30000 {
		many = append(many, pair("k"+strconv.Itoa(i), null()))
	}
	if !lit.RightValue(object(many...)) || lit.RightValue(object(append(slices.Clone(many), many[0])...)) {
		t.Error("an object of many keys")
	}
}

// P9.1: levels at MaxDeep and beyond.
func TestDeepLiterals(t *testing.T) {
	for how := range 3 {
		for levels := range 16 {
			for _, v := range []api.Value{null(), enum("E"), quoted("s"), list(), object()} {
				checkRight(t, nested(v, levels, how), levels < 12, levels < 12)
			}
			checkRight(t, nested(ref("a"), levels, how), levels < 12, false)
			checkRight(t, list(ref("a"), nested(null(), levels, how), null()), levels < 11, false)
			checkRight(t, object(pair("x", nested(null(), levels, how)), pair("y", null())), levels < 11, levels < 11)
		}
	}
}

// R1: lists that hold themselves, and many levels, are wrong.
func TestEndlessLiterals(t *testing.T) {
	self := make([]api.Value, 1000)
	for i := range self {
		self[i] = api.Value{Kind: api.List, L: self}
	}
	pairs := []api.Pair{pair("a", null()), pair("b", null())}
	pairs[1].V = api.Value{Kind: api.Object, F: pairs}
	for _, v := range []api.Value{list(self...), object(pairs...), list(ref("a"), object(pairs...)), nested(null(), 100000, 2)} {
		if s, e := lit.ShowValue(v); lit.RightValue(v) || lit.Constant(v) || s != "" || e != api.ErrArg {
			t.Errorf("ShowValue = %q, %v", s, e)
		}
	}
}

// spoil changes one thing in a literal, wherever it stands.
func spoil(r *rand.Rand, v *api.Value) {
	for len(v.L) > 0 && r.Intn(3) > 0 {
		v = &v.L[r.Intn(len(v.L))]
	}
	for len(v.F) > 0 && r.Intn(3) > 0 {
		v = &v.F[r.Intn(len(v.F))].V
	}
	switch r.Intn(6) {
	case 0:
		v.Kind = r.Intn(11) - 1
	case 1:
		v.N = some(r, 0, 1, 2, -1, int64(api.MaxNumber), int64(api.MaxNumber)+1)
	case 2:
		v.S = some(r, "", "a", "null", "true", "9", "\xff", "a b")
	case 3:
		v.L = append(v.L, some(r, null(), ref("a"), enum("false"), nested(null(), r.Intn(13), 2)))
	case 4:
		v.F = append(v.F, pair(some(r, "a0", "null1", "_2", "", "x y"), some(r, null(), ref(""), nested(ref("a"), r.Intn(13), 2))))
	case 5:
		for i := range v.F {
			v.F[i].Key = some(r, v.F[0].Key, "b", "false", "1", "\xff")
		}
	}
}

// P9.1, P9.5: literals by chance, and what is spoilt of them, against the second reading.
func TestLiteralsByChance(t *testing.T) {
	r := rand.New(rand.NewSource(1))
	right, constant, wrong := 0, 0, 0
	for range 30000 {
		v := chance(r, 1+r.Intn(6))
		if !lit.RightValue(v) || !rightly(v) {
			t.Fatalf("%v isn't right", v)
		}
		checkShow(t, v, false)
		if lit.Constant(v) {
			checkShow(t, v, true)
		}
		for range r.Intn(3) {
			spoil(r, &v)
		}
		want := rightly(v)
		free := want && !slices.ContainsFunc(tokensOf(v), isDollar)
		checkRight(t, v, want, free)
		switch {
		case free:
			constant++
		case want:
			right++
		default:
			wrong++
		}
	}
	if right < 2000 || constant < 2000 || wrong < 2000 {
		t.Errorf("%d with Refs, %d constant, %d wrong", right, constant, wrong)
	}
}

// P9.1: literals as they are written, by hand.
func TestShowValue(t *testing.T) {
	for _, c := range []struct {
		v    api.Value
		want string
	}{
		{null(), "null"}, {truth(0), "false"}, {truth(1), "true"}, {number(0), "0"}, {number(-12), "-12"}, {number(9007199254740991), "9007199254740991"}, {number(-9007199254740991), "-9007199254740991"},
		{quoted(""), `""`}, {quoted("a\"\\/\n\x01\u20ac"), `"a\"\\/\n\u0001` + "\u20ac" + `"`}, {quoted("null"), `"null"`},
		{enum("RED"), "RED"}, {ref("v"), "$v"}, {ref("null"), "$null"},
		{list(), "[]"}, {list(null()), "[null]"}, {list(number(1), ref("v"), enum("RED")), "[1, $v, RED]"}, {list(list(), list(list())), "[[], [[]]]"},
		{object(), "{}"}, {object(pair("a", number(1))), "{a: 1}"}, {object(pair("b", list(ref("a"), truth(1))), pair("a", object(pair("null", quoted("x"))))), `{b: [$a, true], a: {null: "x"}}`},
		{list(object(), object(pair("z", object()))), "[{}, {z: {}}]"},
		{list(quoted(""), quoted("a"), quoted("")), `["", "a", ""]`},
	} {
		if s, e := lit.ShowValue(c.v); s != c.want || e != api.OK {
			t.Errorf("ShowValue(%v) = %q, %v, want %q", c.v, s, e, c.want)
		}
	}
}

// P9.5: each rune in a text is read as it was.
func TestShowEveryRune(t *testing.T) {
	for r := rune(0); r <= 0x10ffff; r++ {
		if 0xd800 <= r && r <= 0xdfff {
			continue
		}
		v := quoted(string(r))
		s, e := lit.ShowValue(v)
		if again, f := lit.ParseValue(s, true); e != api.OK || f != (api.Fault{}) || !same(again, v) {
			t.Fatalf("ShowValue of %x = %q, %v, read: %v, %v", r, s, e, again, f)
		}
	}
}

// checkRightType holds what P9.1 says of t against what is wanted.
func checkRightType(t *testing.T, x api.Type, want bool) {
	t.Helper()
	s, e := lit.ShowType(x)
	if lit.RightType(x) != want || (e == api.OK) != want || !want && (s != "" || e != api.ErrArg) {
		t.Fatalf("RightType(%q) = %v, ShowType = %q, %v, want %v", x, lit.RightType(x), s, e, want)
	}
	if !want {
		return
	}
	if again, f := lit.ParseType(s); again != x || f != (api.Fault{}) {
		t.Fatalf("ParseType(%q) = %q, %v, want %q", s, again, f, x)
	}
}

// P9.1, P9.5: types, by all Wraps of few signs.
func TestRightType(t *testing.T) {
	right := 0
	each := func(wraps string) {
		want := aWraps.MatchString(wraps)
		if want {
			right++
		}
		checkRightType(t, api.Type{Name: "T", Wraps: wraps}, want)
	}
	allRows(12, []string{"!", "["}, each)
	// none to four signs [, and a ! or none at each of the places about them
	if right != 2+4+8+16+32 {
		t.Errorf("%d of the Wraps are right", right)
	}
	allRows(5, []string{"!", "[", "]", " ", "a", "\x00", "\xff", "\uff01", "\u0121", "\u015b", "1"}, each)
	for _, name := range []string{"a", "Int", "_", "null", "on", "T9_"} {
		checkRightType(t, api.Type{Name: name, Wraps: "![!"}, true)
		checkRightType(t, api.Type{Name: name, Wraps: "!!"}, false)
	}
	for _, name := range []string{"", " ", "9", "a b", "a ", "Int!", "[Int]", "$a", "\u00e9", "a\xff", "a\x00", "a\n"} {
		for _, wraps := range []string{"", "!", "[", "![!", "!!"} {
			checkRightType(t, api.Type{Name: name, Wraps: wraps}, false)
		}
	}
	for _, long := range []string{strings.Repeat("[", 1<<20), strings.Repeat("!", 1<<20), strings.Repeat("[!", 1<<20)} {
		checkRightType(t, api.Type{Name: "T", Wraps: long}, false)
	}
}

// P9.1: types as they are written, by hand.
func TestShowType(t *testing.T) {
	for _, c := range []struct{ name, wraps, want string }{
		{"Int", "", "Int"}, {"Int", "!", "Int!"}, {"Int", "[", "[Int]"}, {"Int", "[!", "[Int]!"}, {"Int", "![", "[Int!]"}, {"Int", "![!", "[Int!]!"},
		{"a", "[[", "[[a]]"}, {"a", "![[!", "[[a!]]!"}, {"a", "[![", "[[a]!]"}, {"a", "[[[[", "[[[[a]]]]"}, {"a", "![![![![!", "[[[[a!]!]!]!]!"},
	} {
		if s, e := lit.ShowType(api.Type{Name: c.name, Wraps: c.wraps}); s != c.want || e != api.OK {
			t.Errorf("ShowType(%s, %s) = %q, %v, want %q", c.name, c.wraps, s, e, c.want)
		}
	}
}

// R5: what is handed in is left as it is, and what is answered shares no memory with it.
func TestMemory(t *testing.T) {
	for _, v := range []api.Value{enum("E"), ref("a"), quoted("s"), list(enum("E")), object(pair("key", quoted("s")), pair("k", ref("a")))} {
		spare := append(slices.Clone(v.L), null(), number(7))
		v.L = spare[:len(v.L)]
		before := slices.Clone(spare)
		s, _ := lit.ShowValue(v)
		lit.RightValue(v)
		lit.Constant(v)
		if !slices.EqualFunc(spare, before, same) {
			t.Errorf("%v was changed", v)
		}
		for _, x := range texts(v) {
			if shared(s, x) {
				t.Errorf("ShowValue(%v) shares memory with it", v)
			}
		}
	}
	name := strings.Clone("Name")
	if s, _ := lit.ShowType(api.Type{Name: name}); shared(s, name) {
		t.Error("ShowType shares memory with a type's name")
	}
	s := strings.Clone(`{key: [E, $ref, "text", "", {key: E}]}`)
	v, _ := lit.ParseValue(s, false)
	for _, x := range texts(v) {
		if shared(x, s) {
			t.Errorf("%q of ParseValue shares memory with the text", x)
		}
	}
	w, _ := lit.ParseValue(s, false)
	w.F[0].V.L[4].F[0].Key = "x"
	w.F[0].V.L = append(w.F[0].V.L[:1], null())
	if again, _ := lit.ParseValue(s, false); !same(again, v) {
		t.Errorf("ParseValue of one text is %v, then %v", v, again)
	}
	s = strings.Clone("[Name!] name")
	x, _ := lit.ParseType(s[:7])
	r := lit.NewReader(s)
	if y := r.Type(); x != y || shared(x.Name, s) || shared(y.Name, s) || shared(r.Name(), s) {
		t.Errorf("%v, %v, or a reader's name shares memory with the text", x, y)
	}
}
