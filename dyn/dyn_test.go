package dyn_test

import (
	"math"
	"math/big"
	"math/rand"
	"reflect"
	"runtime/debug"
	"slices"
	"strconv"
	"strings"
	"testing"
	"unsafe"

	"cascade/api"
	"cascade/dyn"
	"cascade/tree"
)

// Values by hand.

var null = api.Value{}

func boolean(n int64) api.Value { return api.Value{Kind: api.Bool, N: n} }

func number(n int64) api.Value { return api.Value{Kind: api.Int, N: n} }

func str(s string) api.Value { return api.Value{Kind: api.String, S: s} }

func list(l ...api.Value) api.Value { return api.Value{Kind: api.List, L: l} }

func object(f ...api.Pair) api.Value { return api.Value{Kind: api.Object, F: f} }

func pair(key string, v api.Value) api.Pair { return api.Pair{Key: key, V: v} }

// Loose ones by hand.

func many(l ...any) []any { return l }

func member(key string, v any) dyn.Member { return dyn.Member{Key: key, V: v} }

func things(l ...dyn.Member) dyn.Object { return l }

// nested is a value of that many levels, and what stands for it: lists and objects by turns of what the bits of how say.
func nested(levels, how int) (api.Value, any) {
	v, x := number(7), any(int64(7))
	for i := 1; i < levels; i++ {
		if how>>i&1 == 0 {
			v, x = list(v), many(x)
		} else {
			v, x = object(pair("k", v)), things(member("k", x))
		}
	}
	return v, x
}

// Values by chance.

const texts = "|a|b|c|aa|ab|\u00e9|\u20ac|\U0001f600|\ufffd|\x00|a b|\"|key"

func someText(r *rand.Rand) string {
	l := strings.Split(texts, "|")
	return l[r.Intn(len(l))]
}

// someBoth is a right value of at most that many levels, and what stands for it.
func someBoth(r *rand.Rand, levels int) (api.Value, any) {
	kinds := 6
	if levels == 1 {
		kinds = 4
	}
	switch r.Intn(kinds) {
	case api.Bool:
		if r.Intn(2) == 0 {
			return boolean(0), false
		}
		return boolean(1), true
	case api.Int:
		n := []int64{0, 1, -1, 2, api.MaxNumber, -api.MaxNumber}[r.Intn(6)]
		return number(n), n
	case api.String:
		s := someText(r)
		return str(s), s
	case api.List:
		v, x := list(), many()
		for range r.Intn(4) {
			w, y := someBoth(r, levels-1)
			v.L, x = append(v.L, w), append(x, y)
		}
		return v, x
	case api.Object:
		v, x := object(), things()
		for range r.Intn(5) {
			key := someText(r)
			if slices.ContainsFunc(v.F, func(p api.Pair) bool { return p.Key == key }) {
				continue
			}
			w, y := someBoth(r, levels-1)
			v.F, x = append(v.F, pair(key, w)), append(x, member(key, y))
		}
		return v, x
	}
	return null, nil
}

// Readings that the tests go by.

// written is another text for each thing that the tests hand in, whether it is loose or not; nil lists are empty ones.
func written(x any) string {
	switch x := x.(type) {
	case nil:
		return "nil"
	case bool:
		return "bool " + strconv.FormatBool(x)
	case int:
		return "int " + strconv.Itoa(x)
	case int64:
		return "int64 " + strconv.FormatInt(x, 10)
	case float64:
		return "float64 " + strconv.FormatFloat(x, 'g', -1, 64)
	case string:
		return strconv.Quote(x)
	case []any:
		var l []string
		for _, y := range x {
			l = append(l, written(y))
		}
		return "[" + strings.Join(l, ",") + "]"
	case dyn.Object:
		var l []string
		for _, m := range x {
			l = append(l, strconv.Quote(m.Key)+":"+written(m.V))
		}
		return "{" + strings.Join(l, ",") + "}"
	}
	return "another " + reflect.TypeOf(x).String()
}

// writtenValue is another text for each value; nil lists are empty ones.
func writtenValue(v api.Value) string {
	s := strconv.Itoa(v.Kind) + ":" + strconv.FormatInt(v.N, 10) + strconv.Quote(v.S)
	for _, x := range v.L {
		s += "[" + writtenValue(x) + "]"
	}
	for _, p := range v.F {
		s += "{" + strconv.Quote(p.Key) + "=" + writtenValue(p.V) + "}"
	}
	return s
}

// places are those of a loose value and of all in it.
func places(x *any) []*any {
	l := []*any{x}
	switch x := (*x).(type) {
	case []any:
		for i := range x {
			l = append(l, places(&x[i])...)
		}
	case dyn.Object:
		for i := range x {
			l = append(l, places(&x[i].V)...)
		}
	}
	return l
}

// wrappings are x at the top, and within.
func wrappings(x any) []any {
	return []any{
		x,
		many(x),
		many(int64(1), x, "a"),
		things(member("a", x)),
		things(member("a", nil), member("b", x)),
		many(many(), many(true, many(x))),
		things(member("a", many(things(member("b", things(member("c", x))))))),
		many(things(), things(member("a", many(x)))),
	}
}

type ownInt int64

type ownText string

type ownBool bool

type ownList []any

type ownObject dyn.Object

type ownMember dyn.Member

// others are neither loose nor an int.
func others() []any {
	n, s, l, o := int64(1), "a", many(), things()
	return []any{
		1.5, 1.0, math.NaN(), float32(1), complex(1, 0),
		int8(1), int16(1), int32(1), uint(1), uint8(1), uint16(1), uint32(1), uint64(1), uintptr(1), 'a',
		[]byte("a"), []rune{97}, []string{"a"}, []int64{1}, []int{1}, []bool{true}, [1]any{nil}, [][]any{{}},
		[]dyn.Member{}, []dyn.Member(nil), dyn.Member{Key: "a"}, []dyn.Object{}, struct{}{},
		map[string]any{}, map[string]any(nil), map[int]any{},
		&n, &s, &l, &o, (*int64)(nil), (*dyn.Object)(nil), (*any)(nil),
		ownInt(1), ownText("a"), ownBool(true), ownList{}, ownList(nil), ownObject{}, ownMember{},
		api.Value{}, number(1), api.Pair{}, []api.Value{}, api.ErrArg, func() {}, make(chan any),
	}
}

// Memory.

// extent is where a list or a text stands in memory.
type extent struct{ from, end uintptr }

func meet(a, b extent) bool { return a.from < b.end && b.from < a.end }

// extents are where some lists and texts stand.
type extents []extent

func (l *extents) add(p unsafe.Pointer, size uintptr) {
	if size > 0 {
		*l = append(*l, extent{uintptr(p), uintptr(p) + size})
	}
}

func (l *extents) text(s string) {
	l.add(unsafe.Pointer(unsafe.StringData(s)), uintptr(len(s)))
}

// loose puts where the lists and the texts of x stand, all their spare room too.
func (l *extents) loose(x any) {
	switch x := x.(type) {
	case string:
		l.text(x)
	case []string:
		l.add(unsafe.Pointer(unsafe.SliceData(x)), uintptr(cap(x))*unsafe.Sizeof(""))
		for _, s := range x {
			l.text(s)
		}
	case []any:
		l.add(unsafe.Pointer(unsafe.SliceData(x)), uintptr(cap(x))*unsafe.Sizeof(any(nil)))
		for _, y := range x {
			l.loose(y)
		}
	case dyn.Object:
		l.add(unsafe.Pointer(unsafe.SliceData(x)), uintptr(cap(x))*unsafe.Sizeof(dyn.Member{}))
		for _, m := range x {
			l.text(m.Key)
			l.loose(m.V)
		}
	}
}

// value puts where the lists and the texts of v stand, all their spare room too.
func (l *extents) value(v api.Value) {
	l.text(v.S)
	l.add(unsafe.Pointer(unsafe.SliceData(v.L)), uintptr(cap(v.L))*unsafe.Sizeof(api.Value{}))
	l.add(unsafe.Pointer(unsafe.SliceData(v.F)), uintptr(cap(v.F))*unsafe.Sizeof(api.Pair{}))
	for _, x := range v.L {
		l.value(x)
	}
	for _, p := range v.F {
		l.text(p.Key)
		l.value(p.V)
	}
}

// wantNew fails, if what is answered shares memory with what was given, or within itself.
func wantNew(t *testing.T, name string, answer, given extents) {
	t.Helper()
	for i, a := range answer {
		for _, b := range given {
			if meet(a, b) {
				t.Errorf("%s shares memory with what it was given", name)
				return
			}
		}
		for _, b := range answer[:i] {
			if meet(a, b) {
				t.Errorf("%s shares memory within what it answers", name)
				return
			}
		}
	}
}

func wantLoose(t *testing.T, name string, got, want any) {
	t.Helper()
	if written(got) != written(want) {
		t.Errorf("%s = %s, want %s", name, written(got), written(want))
	}
}

// P4.1: To, of each kind and at its edges.
func TestTo(t *testing.T) {
	for _, c := range []struct {
		v    api.Value
		want any
	}{
		{null, nil},
		{api.Value{L: []api.Value{}, F: []api.Pair{}}, nil},
		{boolean(0), false},
		{boolean(1), true},
		{number(0), int64(0)},
		{number(-5), int64(-5)},
		{number(api.MaxNumber), int64(api.MaxNumber)},
		{number(-api.MaxNumber), int64(-api.MaxNumber)},
		{str(""), ""},
		{str("a\u20ac\x00"), "a\u20ac\x00"},
		{list(), many()},
		{object(), things()},
		{list(null, boolean(1), number(2), str("c"), list(), object()), many(nil, true, int64(2), "c", many(), things())},
		{object(pair("b", number(1)), pair("", null), pair("a", list(str("x")))), things(member("b", int64(1)), member("", nil), member("a", many("x")))},
		{list(object(pair("a", object(pair("a", boolean(0)))))), many(things(member("a", things(member("a", false)))))},
	} {
		x, e := dyn.To(c.v)
		if e != api.OK {
			t.Errorf("To(%v): %d", c.v, e)
		}
		wantLoose(t, "To of "+writtenValue(c.v), x, c.want)
	}
}

// wrongValues are values that aren't right.
func wrongValues() []api.Value {
	deep, _ := nested(api.MaxDeep+1, 0)
	return []api.Value{
		{N: 1}, {S: "a"}, {L: []api.Value{{}}}, {F: []api.Pair{{}}},
		{Kind: -1}, {Kind: api.Enum, S: "a"}, {Kind: api.Ref, S: "a"}, {Kind: 8}, {Kind: 9}, {Kind: 10}, {Kind: 11}, {Kind: 12}, {Kind: 13},
		boolean(2), boolean(-1), {Kind: api.Bool, S: "a"},
		number(api.MaxNumber + 1), number(-api.MaxNumber - 1), number(math.MaxInt64), number(math.MinInt64), {Kind: api.Int, L: []api.Value{{}}},
		str("\xff"), str("a\xc3"), str("\xed\xa0\x80"), {Kind: api.String, N: 1},
		{Kind: api.List, N: 1}, {Kind: api.List, F: []api.Pair{{}}},
		{Kind: api.Object, S: "a"}, {Kind: api.Object, L: []api.Value{{}}},
		object(pair("\xff", null)), object(pair("a", null), pair("a", null)), object(pair("a", null), pair("b", null), pair("a", number(1))),
		deep,
	}
}

// P4.1, R3: To of what isn't right, at the top and within.
func TestToWrong(t *testing.T) {
	for _, v := range wrongValues() {
		for _, w := range []api.Value{v, list(v), list(null, v, null), object(pair("a", v)), object(pair("a", null), pair("b", list(object(pair("c", v)))))} {
			if x, e := dyn.To(w); x != nil || e != api.ErrArg {
				t.Errorf("To(%v) = %v, %d", w, x, e)
			}
		}
	}
}

// P4.1: From, of each type and at its edges.
func TestFrom(t *testing.T) {
	for _, c := range []struct {
		x    any
		want api.Value
	}{
		{nil, null},
		{false, boolean(0)},
		{true, boolean(1)},
		{int64(0), number(0)},
		{int64(-5), number(-5)},
		{int64(api.MaxNumber), number(api.MaxNumber)},
		{int64(-api.MaxNumber), number(-api.MaxNumber)},
		{0, number(0)},
		{7, number(7)},
		{-7, number(-7)},
		{int(api.MaxNumber), number(api.MaxNumber)},
		{int(-api.MaxNumber), number(-api.MaxNumber)},
		{"", str("")},
		{"a\u20ac\x00", str("a\u20ac\x00")},
		{many(), list()},
		{[]any(nil), list()},
		{things(), object()},
		{dyn.Object(nil), object()},
		{many(nil, true, int64(2), 3, "c", many(), []any(nil), things(), dyn.Object(nil)), list(null, boolean(1), number(2), number(3), str("c"), list(), list(), object(), object())},
		{things(member("b", 1), member("", nil), member("a", many("x"))), object(pair("b", number(1)), pair("", null), pair("a", list(str("x"))))},
		{things(member("n", []any(nil)), member("o", dyn.Object(nil))), object(pair("n", list()), pair("o", object()))},
		{many(things(member("a", things(member("a", false))))), list(object(pair("a", object(pair("a", boolean(0))))))},
	} {
		if v, e := dyn.From(c.x); writtenValue(v) != writtenValue(c.want) || e != api.OK {
			t.Errorf("From(%s) = %v, %d", written(c.x), v, e)
		}
	}
}

// P4.1, R3: From of what isn't loose, and of what isn't right, at the top and within.
func TestFromWrong(t *testing.T) {
	_, deep := nested(api.MaxDeep+1, -1)
	wrong := append(others(),
		int64(api.MaxNumber+1), int64(-api.MaxNumber-1), int64(math.MaxInt64), int64(math.MinInt64), math.MaxInt, math.MinInt, api.MaxNumber+1, -api.MaxNumber-1,
		"\xff", "a\xc3", "\xed\xa0\x80",
		things(member("\xff", nil)), things(member("a", nil), member("a", nil)), things(member("", 1), member("b", 2), member("", 3)),
		deep)
	for _, x := range wrong {
		for _, y := range wrappings(x) {
			if v, e := dyn.From(y); !reflect.DeepEqual(v, null) || e != api.ErrArg {
				t.Errorf("From(%s) = %v, %d", written(y), v, e)
			}
		}
	}
}

// P4.1, P4.3: every nesting at MaxDeep comes and comes again, and one level more is too deep.
func TestDeepest(t *testing.T) {
	for how := range 1 << api.MaxDeep {
		v, x := nested(api.MaxDeep, how)
		if y, e := dyn.To(v); written(y) != written(x) || e != api.OK {
			t.Fatalf("To(%v) = %s, %d", v, written(y), e)
		}
		if w, e := dyn.From(x); !tree.Same(w, v) || e != api.OK {
			t.Fatalf("From(%s) = %v, %d", written(x), w, e)
		}
	}
	for how := range 1 << (api.MaxDeep + 1) {
		v, x := nested(api.MaxDeep+1, how)
		if y, e := dyn.To(v); y != nil || e != api.ErrArg {
			t.Fatalf("To(%v) = %s, %d", v, written(y), e)
		}
		if w, e := dyn.From(x); !reflect.DeepEqual(w, null) || e != api.ErrArg {
			t.Fatalf("From(%s) = %v, %d", written(x), w, e)
		}
	}
	// A list without values is one level, as any value is.
	x := any([]any(nil))
	for level := 1; level <= api.MaxDeep+1; level++ {
		if _, e := dyn.From(x); (e == api.OK) != (level <= api.MaxDeep) {
			t.Errorf("From at level %d: %d", level, e)
		}
		x = many(x)
	}
}

// P4.1, P4.3: To and From of values by chance; a value comes again from what stands for it.
func TestAgainByChance(t *testing.T) {
	r := rand.New(rand.NewSource(1))
	for range 20000 {
		v, x := someBoth(r, 1+r.Intn(6))
		y, e := dyn.To(v)
		if written(y) != written(x) || e != api.OK {
			t.Fatalf("To(%v) = %s, %d", v, written(y), e)
		}
		w, e := dyn.From(y)
		if !tree.Same(w, v) || e != api.OK {
			t.Fatalf("From(%s) = %v, %d", written(y), w, e)
		}
		if w, e := dyn.From(x); writtenValue(w) != writtenValue(v) || e != api.OK {
			t.Fatalf("From(%s) = %v, %d", written(x), w, e)
		}
		if k := dyn.Kind(y); k != v.Kind {
			t.Fatalf("Kind(%s) = %d", written(y), k)
		}
		wantLoose(t, "Odd", dyn.Odd(v), x)
	}
}

// P4.1: one wrong thing anywhere in a loose value by chance.
func TestFromSpoiltByChance(t *testing.T) {
	r := rand.New(rand.NewSource(2))
	wrong := append(others(), int64(api.MaxNumber+1), -api.MaxNumber-1, "\xff", things(member("a", 1), member("a", 1)))
	for range 20000 {
		_, x := someBoth(r, 1+r.Intn(6))
		l := places(&x)
		*l[r.Intn(len(l))] = wrong[r.Intn(len(wrong))]
		if v, e := dyn.From(x); !reflect.DeepEqual(v, null) || e != api.ErrArg {
			t.Fatalf("From(%s) = %v, %d", written(x), v, e)
		}
	}
}

// P4.1: Kind goes by the type alone, whatever is in it.
func TestKind(t *testing.T) {
	for _, c := range []struct {
		x    any
		want int
	}{
		{nil, api.Null},
		{false, api.Bool},
		{true, api.Bool},
		{0, api.Int},
		{-1, api.Int},
		{math.MaxInt, api.Int},
		{int64(0), api.Int},
		{int64(math.MinInt64), api.Int},
		{"", api.String},
		{"\xff", api.String},
		{many(), api.List},
		{[]any(nil), api.List},
		{many(1.5, "\xff"), api.List},
		{things(), api.Object},
		{dyn.Object(nil), api.Object},
		{things(member("\xff", 1.5), member("\xff", nil)), api.Object},
	} {
		if k := dyn.Kind(c.x); k != c.want {
			t.Errorf("Kind(%s) = %d, want %d", written(c.x), k, c.want)
		}
	}
	for _, x := range others() {
		if k := dyn.Kind(x); k != -1 {
			t.Errorf("Kind of %T = %d", x, k)
		}
	}
}

// P4.2: Go, key by key.
func TestGo(t *testing.T) {
	inner := things(member("x", nil), member("", 1.5), member("x", "second"))
	x := things(member("a", int64(1)), member("o", inner), member("a", "second"), member("\xff", true), member("l", many(inner)), member("o", "second"), member("e", dyn.Object(nil)), member("n", []any(nil)))
	for _, c := range []struct {
		x    any
		keys []string
		want any
	}{
		{x, nil, x},
		{x, []string{}, x},
		{nil, nil, nil},
		{5, nil, 5},
		{1.5, nil, 1.5},
		{"a", nil, "a"},
		{many(1, "b", 2.5), nil, many(1, "b", 2.5)},
		{x, []string{"a"}, int64(1)},
		{x, []string{"o"}, inner},
		{x, []string{"\xff"}, true},
		{x, []string{"l"}, many(inner)},
		{x, []string{"e"}, things()},
		{x, []string{"n"}, many()},
		{x, []string{"o", "x"}, nil},
		{x, []string{"o", ""}, 1.5},
		{things(member("a", things(member("a", things(member("a", 3)))))), []string{"a", "a", "a"}, 3},
		{things(member("a", things(member("a", things(member("a", 3)))))), []string{"a", "a"}, things(member("a", 3))},
	} {
		y, ok := dyn.Go(c.x, c.keys...)
		if !ok {
			t.Errorf("Go(%s, %q) finds nothing", written(c.x), c.keys)
		}
		wantLoose(t, "Go of "+written(c.x), y, c.want)
	}
}

// P4.2, R3: Go, where there is no Object, or no such Member.
func TestGoNowhere(t *testing.T) {
	x := things(member("a", things(member("b", 1))), member("n", nil), member("l", many(things(member("b", 1)))), member("s", "a"), member("a", things(member("c", 1))))
	for _, c := range []struct {
		x    any
		keys []string
	}{
		{x, []string{"b"}},
		{x, []string{""}},
		{x, []string{"A"}},
		{x, []string{"a", "a"}},
		// The first one of two has none of it, and the second isn't asked.
		{x, []string{"a", "c"}},
		{x, []string{"a", "b", "c"}},
		{x, []string{"x", "b"}},
		{x, []string{"n", "a"}},
		{x, []string{"l", "b"}},
		{x, []string{"l", "0"}},
		{x, []string{"s", "a"}},
		{nil, []string{""}},
		{nil, []string{"a"}},
		{5, []string{"a"}},
		{"a", []string{"a"}},
		{many(x), []string{"a"}},
		{things(), []string{""}},
		{dyn.Object(nil), []string{""}},
		{[]dyn.Member(x), []string{"a"}},
		{ownObject(x), []string{"a"}},
		{&x, []string{"a"}},
		{map[string]any{"a": 1}, []string{"a"}},
		{dyn.Member{Key: "a", V: 1}, []string{"a"}},
	} {
		if y, ok := dyn.Go(c.x, c.keys...); y != nil || ok {
			t.Errorf("Go(%s, %q) = %v, %v", written(c.x), c.keys, y, ok)
		}
	}
}

// P4.2: what isn't loose is come to as well, and is what it was.
func TestGoToOthers(t *testing.T) {
	n := int64(5)
	m := map[string]any{"a": 1}
	for _, x := range []any{things(member("p", &n), member("m", m)), things(member("p", &n), member("l", many(1)), member("m", m))} {
		if y, ok := dyn.Go(x, "p"); y != any(&n) || !ok {
			t.Errorf("Go to a pointer = %v, %v", y, ok)
		}
		if y, ok := dyn.Go(x, "m"); !reflect.DeepEqual(y, m) || !ok {
			t.Errorf("Go to a map = %v, %v", y, ok)
		}
		if y, ok := dyn.Go(x); !reflect.DeepEqual(y, x) || !ok {
			t.Errorf("Go = %v, %v", y, ok)
		}
	}
	for _, x := range others() {
		if y, ok := dyn.Go(x); reflect.TypeOf(y) != reflect.TypeOf(x) || !ok {
			t.Errorf("Go of %T = %v, %v", x, y, ok)
		}
		if y, ok := dyn.Go(things(member("a", x)), "a"); reflect.TypeOf(y) != reflect.TypeOf(x) || !ok {
			t.Errorf("Go to %T = %v, %v", x, y, ok)
		}
		if y, ok := dyn.Go(x, "a"); y != nil || ok {
			t.Errorf("Go in %T = %v, %v", x, y, ok)
		}
	}
}

// P4.2: Go to every place of loose values by chance, whose keys may stand twice.
func TestGoByChance(t *testing.T) {
	r := rand.New(rand.NewSource(3))
	for range 5000 {
		_, x := someBoth(r, 1+r.Intn(6))
		if o, is := x.(dyn.Object); is && len(o) > 0 {
			x = append(o, member(o[0].Key, "second"))
		}
		var look func(y any, keys []string)
		look = func(y any, keys []string) {
			z, ok := dyn.Go(x, keys...)
			if written(z) != written(y) || !ok {
				t.Fatalf("Go(%s, %q) = %s, %v", written(x), keys, written(z), ok)
			}
			o, _ := y.(dyn.Object)
			met := map[string]bool{}
			for _, m := range o {
				if !met[m.Key] {
					met[m.Key] = true
					look(m.V, append(slices.Clone(keys), m.Key))
				}
			}
			if z, ok := dyn.Go(x, append(slices.Clone(keys), "none")...); z != nil || ok {
				t.Fatalf("Go(%s, %q, none) = %s, %v", written(x), keys, written(z), ok)
			}
		}
		look(x, nil)
	}
}

// P4.2: Texts.
func TestTexts(t *testing.T) {
	for _, c := range []struct {
		x    any
		want []string
	}{
		{many(), nil},
		{[]any(nil), nil},
		{many("a"), []string{"a"}},
		{many("b", "", "a", "b", "\u20ac"), []string{"b", "", "a", "b", "\u20ac"}},
		// A string may be no text.
		{many("\xff", "a"), []string{"\xff", "a"}},
	} {
		if l, e := dyn.Texts(c.x); !slices.Equal(l, c.want) || e != api.OK {
			t.Errorf("Texts(%s) = %q, %d", written(c.x), l, e)
		}
	}
}

// P4.2, R1, R3: Texts of what is no []any, or has something else in it.
func TestTextsWrong(t *testing.T) {
	loose := []any{nil, false, true, 1, int64(1), many(), many("a"), things(), things(member("a", "a")), dyn.Object(nil), []any(nil)}
	for _, x := range append(others(), loose...) {
		for _, y := range []any{many(x), many("a", x), many(x, "a"), many("a", "b", x, "c")} {
			if l, e := dyn.Texts(y); len(l) != 0 || e != api.ErrArg {
				t.Errorf("Texts(%s) = %q, %d", written(y), l, e)
			}
		}
	}
	for _, x := range append(others(), nil, false, 1, int64(1), "", "a", things(), dyn.Object(nil), things(member("a", "a"))) {
		if l, e := dyn.Texts(x); len(l) != 0 || e != api.ErrArg {
			t.Errorf("Texts(%s) = %q, %d", written(x), l, e)
		}
	}
}

// P4.2: Sum, and which error is told: the one that is met first, from the left.
func TestSum(t *testing.T) {
	const most = int64(api.MaxNumber)
	one := int64(1)
	for _, c := range []struct {
		x    any
		want int64
		e    api.Errno
	}{
		{int64(0), 0, api.OK},
		{int64(-5), -5, api.OK},
		{most, most, api.OK},
		{-most, -most, api.OK},
		{many(), 0, api.OK},
		{[]any(nil), 0, api.OK},
		{many(many(), many([]any(nil))), 0, api.OK},
		{many(int64(2), many(int64(3))), 5, api.OK},
		{many(many(one, many(int64(-3), one), one), int64(10)), 10, api.OK},
		{many(most), most, api.OK},
		{many(most-1, one), most, api.OK},
		{many(-most+1, -one), -most, api.OK},
		{many(most, -most, most), most, api.OK},
		{many(most, many(one, -one)), most, api.OK},
		{many(many(most), many(-most)), 0, api.OK},
		{many(most, many(), many(many())), most, api.OK},

		{most + 1, 0, api.ErrLong},
		{-most - 1, 0, api.ErrLong},
		{int64(math.MaxInt64), 0, api.ErrLong},
		{int64(math.MinInt64), 0, api.ErrLong},
		{many(most + 1), 0, api.ErrLong},
		{many(many(one, -most-1)), 0, api.ErrLong},
		{many(most, one), 0, api.ErrLong},
		{many(-most, -one), 0, api.ErrLong},
		{many(most, most), 0, api.ErrLong},
		{many(one, most), 0, api.ErrLong},
		// As it is made from the left, though it would come back.
		{many(most, one, -one), 0, api.ErrLong},
		{many(many(most, one), -most), 0, api.ErrLong},
		{many(-most, many(most, one)), 0, api.ErrLong},
		{many(-one, most+1), 0, api.ErrLong},
		{many(most, many(one)), 0, api.ErrLong},

		{many(most, one, "x"), 0, api.ErrLong},
		{many(most, "x", one), 0, api.ErrArg},
		{many("x", most, one), 0, api.ErrArg},
		{many(most+1, "x"), 0, api.ErrLong},
		{many("x", most+1), 0, api.ErrArg},
		{many(most, many(one, "x")), 0, api.ErrArg},
		{many(most, many(one), "x"), 0, api.ErrLong},
		{many(many(most, one), "x"), 0, api.ErrLong},
		{many(many("x"), most+1), 0, api.ErrArg},
		{many(most, many(many(most+1), "x")), 0, api.ErrLong},
	} {
		if n, e := dyn.Sum(c.x); n != c.want || e != c.e {
			t.Errorf("Sum(%s) = %d, %d, want %d, %d", written(c.x), n, e, c.want, c.e)
		}
	}
}

// P4.2, R1, R3: Sum, where there is anything else; an int is no int64.
func TestSumWrong(t *testing.T) {
	for _, x := range append(others(), nil, false, true, 0, 1, "", "1", things(), dyn.Object(nil), things(member("a", int64(1)))) {
		for _, y := range []any{x, many(x), many(int64(1), x), many(x, int64(1)), many(many(), many(int64(1), many(x)))} {
			if n, e := dyn.Sum(y); n != 0 || e != api.ErrArg {
				t.Errorf("Sum(%s) = %d, %d", written(y), n, e)
			}
		}
	}
}

// someSum is something to be summed, at times with what can't be.
func someSum(r *rand.Rand, levels int) any {
	switch n := r.Intn(12); {
	case n < 6 || levels == 1:
		return []int64{0, 1, -1, 5, api.MaxNumber, -api.MaxNumber, api.MaxNumber - 2, 2 - api.MaxNumber}[r.Intn(8)]
	case n == 6 && r.Intn(4) == 0:
		return []any{nil, 1, "a", 1.5, true, things(), int64(api.MaxNumber + 1), int64(math.MinInt64)}[r.Intn(8)]
	}
	l := many()
	for range r.Intn(5) {
		l = append(l, someSum(r, levels-1))
	}
	return l
}

// sumOf is Sum by numbers of any size, and without giving up.
func sumOf(x any) (*big.Int, api.Errno) {
	most, sum := big.NewInt(api.MaxNumber), new(big.Int)
	switch x := x.(type) {
	case int64:
		sum.SetInt64(x)
	case []any:
		for _, y := range x {
			n, e := sumOf(y)
			if e != api.OK {
				return nil, e
			}
			if sum.Add(sum, n).CmpAbs(most) > 0 {
				return nil, api.ErrLong
			}
		}
	default:
		return nil, api.ErrArg
	}
	if sum.CmpAbs(most) > 0 {
		return nil, api.ErrLong
	}
	return sum, api.OK
}

// P4.2: Sum of lists by chance.
func TestSumByChance(t *testing.T) {
	r := rand.New(rand.NewSource(4))
	met := map[api.Errno]int{}
	for range 50000 {
		x := someSum(r, 1+r.Intn(5))
		want, wantE := sumOf(x)
		if want == nil {
			want = new(big.Int)
		}
		n, e := dyn.Sum(x)
		if n != want.Int64() || e != wantE {
			t.Fatalf("Sum(%s) = %d, %d, want %d, %d", written(x), n, e, want, wantE)
		}
		met[e]++
	}
	if met[api.OK] < 1000 || met[api.ErrArg] < 1000 || met[api.ErrLong] < 1000 {
		t.Errorf("chance gives too few of a kind: %v", met)
	}
}

// P4.2: Odd of every kind, of right values and of others.
func TestOdd(t *testing.T) {
	for _, c := range []struct {
		v    api.Value
		want any
	}{
		{null, nil},
		{api.Value{N: 1, S: "a", L: []api.Value{{}}, F: []api.Pair{{}}}, nil},
		{boolean(0), false},
		{boolean(1), true},
		{boolean(2), false},
		{boolean(-1), false},
		{number(5), int64(5)},
		{number(math.MaxInt64), int64(math.MaxInt64)},
		{number(math.MinInt64), int64(math.MinInt64)},
		{str(""), ""},
		{str("\xff"), "\xff"},
		{list(), many()},
		{object(), things()},
		{api.Value{Kind: api.Enum, S: "a"}, nil},
		{api.Value{Kind: api.Ref, S: "a"}, nil},
		{api.Value{Kind: 8, N: 1}, nil},
		{api.Value{Kind: 9}, 0},
		{api.Value{Kind: 9, N: 7}, 7},
		{api.Value{Kind: 9, N: -api.MaxNumber - 1}, -api.MaxNumber - 1},
		{api.Value{Kind: 10}, 0.0},
		{api.Value{Kind: 10, N: 1}, 1.0},
		{api.Value{Kind: 10, N: -3}, -3.0},
		{api.Value{Kind: 10, N: math.MaxInt64}, 9223372036854775808.0},
		{api.Value{Kind: 11, N: 1}, many()},
		{api.Value{Kind: 12, N: 1}, things()},
		{api.Value{Kind: 13, N: 1}, nil},
		{api.Value{Kind: -1, N: 1}, nil},
		{api.Value{Kind: -9, N: 1}, nil},
		{api.Value{Kind: math.MaxInt, N: 1}, nil},
		// What a kind doesn't use is passed over.
		{api.Value{Kind: api.Bool, N: 1, S: "a", L: []api.Value{{}}}, true},
		{api.Value{Kind: api.String, N: 1, S: "a", F: []api.Pair{{}}}, "a"},
		{api.Value{Kind: api.List, N: 1, S: "a", L: []api.Value{number(1)}, F: []api.Pair{{}}}, many(int64(1))},
		{api.Value{Kind: api.Object, N: 1, S: "a", L: []api.Value{number(1)}, F: []api.Pair{pair("a", null)}}, things(member("a", nil))},
		{api.Value{Kind: 11, L: []api.Value{{}}}, many()},
		{api.Value{Kind: 12, F: []api.Pair{{}}}, things()},
		{list(api.Value{Kind: 9, N: 7}, api.Value{Kind: 10, N: 1}, boolean(1), api.Value{Kind: 6, S: "x"}, api.Value{Kind: 11}, api.Value{Kind: 12}), many(7, 1.0, true, nil, many(), things())},
		{object(pair("b", api.Value{Kind: 9, N: 7}), pair("a", list(api.Value{Kind: 10, N: 2})), pair("b", api.Value{Kind: 7}), pair("\xff", str("\xff"))), things(member("b", 7), member("a", many(2.0)), member("b", nil), member("\xff", "\xff"))},
	} {
		wantLoose(t, "Odd of "+writtenValue(c.v), dyn.Odd(c.v), c.want)
	}
}

// P4.2: of 11 and 12 nil lists, wherever they stand.
func TestOddNil(t *testing.T) {
	x := dyn.Odd(list(api.Value{Kind: 11}, api.Value{Kind: 12}))
	for _, y := range []any{dyn.Odd(api.Value{Kind: 11}), x.([]any)[0]} {
		if l, is := y.([]any); !is || l != nil {
			t.Errorf("Odd of 11 = %v", y)
		}
	}
	for _, y := range []any{dyn.Odd(api.Value{Kind: 12}), x.([]any)[1]} {
		if o, is := y.(dyn.Object); !is || o != nil {
			t.Errorf("Odd of 12 = %v", y)
		}
	}
}

// oddBoth is whatever value, and what Odd is to make of it.
func oddBoth(r *rand.Rand, levels int) (api.Value, any) {
	v := api.Value{Kind: r.Intn(16) - 2, N: []int64{0, 1, 2, -1, math.MaxInt64}[r.Intn(5)], S: []string{"", "a", "\xff"}[r.Intn(3)]}
	if levels > 1 && r.Intn(2) == 0 {
		v.Kind = api.List + r.Intn(2)
	}
	l, o := many(), things()
	if levels > 1 {
		for range r.Intn(4) {
			w, x := oddBoth(r, levels-1)
			v.L, l = append(v.L, w), append(l, x)
		}
		for range r.Intn(4) {
			w, x := oddBoth(r, levels-1)
			key := []string{"", "a", "b", "\xff"}[r.Intn(4)]
			v.F, o = append(v.F, pair(key, w)), append(o, member(key, x))
		}
	}
	switch v.Kind {
	case 1:
		return v, v.N == 1
	case 2:
		return v, v.N
	case 3:
		return v, v.S
	case 4:
		return v, l
	case 5:
		return v, o
	case 9:
		return v, int(v.N)
	case 10:
		return v, float64(v.N)
	case 11:
		return v, []any(nil)
	case 12:
		return v, dyn.Object(nil)
	}
	return v, nil
}

// P4.2: Odd of whatever values by chance, deeper than MaxDeep too.
func TestOddByChance(t *testing.T) {
	r := rand.New(rand.NewSource(5))
	for range 3000 {
		v, want := oddBoth(r, 1+r.Intn(6))
		for range r.Intn(2 * api.MaxDeep) {
			v, want = list(v), many(want)
		}
		if x := dyn.Odd(v); written(x) != written(want) {
			t.Fatalf("Odd(%v) = %s, want %s", v, written(x), written(want))
		}
	}
}

// R5: what is answered is new memory, and what is handed in is left as it is, its spare room too.
func TestMemory(t *testing.T) {
	letters := strings.Repeat("abc", 2)
	l := []any{int64(1), letters[1:4], many(int64(3)), "spare", "spare"}[:3]
	o := things(member(letters[:2], l), member(letters[1:], letters), member("spare", nil))[:2]
	x := things(member("x", l), member("y", l), member("z", l[:2]), member("o", o), member("p", o[1:]), member(letters[2:], l), member("spare", nil))[:6]
	was := written(x) + written(l[:cap(l)]) + written(o[:cap(o)]) + written(x[:cap(x)])
	var given extents
	given.loose(x)

	v, e := dyn.From(x)
	if e != api.OK {
		t.Fatalf("From: %d", e)
	}
	var fromX extents
	fromX.value(v)
	wantNew(t, "From", fromX, given)
	for _, keys := range [][]string{nil, {"x"}, {"o"}, {"o", letters[:2]}, {"p", letters[1:]}} {
		y, ok := dyn.Go(x, keys...)
		if !ok {
			t.Errorf("%q leads nowhere", keys)
		}
		var answer extents
		answer.loose(y)
		wantNew(t, "Go", answer, given)
	}
	strs := []any{letters, letters[1:], "spare"}[:2]
	texts, e := dyn.Texts(strs)
	if e != api.OK {
		t.Errorf("Texts: %d", e)
	}
	var answer, givenTexts extents
	answer.loose(texts)
	givenTexts.loose(strs)
	wantNew(t, "Texts", answer, givenTexts)
	dyn.Sum(l)
	dyn.Kind(x)
	if strs[:3][2] != "spare" || was != written(x)+written(l[:cap(l)])+written(o[:cap(o)])+written(x[:cap(x)]) {
		t.Error("what was handed in is changed")
	}
}

// R5: the same of To and Odd, which are handed a value.
func TestMemoryOfValues(t *testing.T) {
	letters := strings.Repeat("abc", 2)
	l := []api.Value{number(1), str(letters[1:4]), list(number(3)), str("spare")}[:3]
	f := []api.Pair{pair(letters[:2], list(l...)), pair(letters[1:], str(letters)), pair("spare", null)}[:2]
	v := object(pair("x", list(l...)), pair("y", api.Value{Kind: api.List, L: l}), pair("o", api.Value{Kind: api.Object, F: f}), pair("p", api.Value{Kind: api.Object, F: f[1:]}), pair(letters[2:], null))
	was := writtenValue(v) + writtenValue(list(l[:4]...)) + writtenValue(object(f[:3]...))
	var given extents
	given.value(v)
	x, e := dyn.To(v)
	if e != api.OK {
		t.Fatalf("To: %d", e)
	}
	for name, y := range map[string]any{"To": x, "Odd": dyn.Odd(v)} {
		var answer extents
		answer.loose(y)
		wantNew(t, name, answer, given)
	}
	if was != writtenValue(v)+writtenValue(list(l[:4]...))+writtenValue(object(f[:3]...)) {
		t.Error("what was handed in is changed")
	}
}

// endless are lists and objects that hold themselves, after a way, by a way round, and in many places.
func endless() []any {
	l := many(nil)
	l[0] = l
	o := things(member("a", nil))
	o[0].V = o
	behind := many(int64(1), many(int64(2)), nil)
	behind[2] = many(many(), behind)
	wide := make([]any, 100)
	for i := range wide {
		wide[i] = wide
	}
	round := many(nil)
	last := any(round)
	for i := range 100 {
		if i%3 == 0 {
			last = things(member("a", last))
		} else {
			last = many(int64(0), last)
		}
	}
	round[0] = last
	sums := many(nil)
	last = sums
	for range 1000 {
		last = many(int64(0), last)
	}
	sums[0] = last
	return []any{l, o, behind, wide, round, sums, many(many(int64(1)), many(many(l))), things(member("a", o), member("a", nil)), many(wide, wide)}
}

// R1: what holds itself is no value; every call on it ends all the same.
func TestEndless(t *testing.T) {
	for i, x := range endless() {
		if v, e := dyn.From(x); !reflect.DeepEqual(v, null) || e != api.ErrArg {
			t.Errorf("From of %d: %d", i, e)
		}
		if k := dyn.Kind(x); k != api.List && k != api.Object {
			t.Errorf("Kind of %d = %d", i, k)
		}
		if n, e := dyn.Sum(x); n != 0 || e != api.ErrArg {
			t.Errorf("Sum of %d = %d, %d", i, n, e)
		}
		if l, e := dyn.Texts(x); len(l) != 0 || e != api.ErrArg {
			t.Errorf("Texts of %d = %q, %d", i, l, e)
		}
		if y, ok := dyn.Go(x); dyn.Kind(y) != dyn.Kind(x) || !ok {
			t.Errorf("Go of %d = a %T, %v", i, y, ok)
		}
		if y, ok := dyn.Go(things(member("k", x), member("n", 1)), "k"); dyn.Kind(y) != dyn.Kind(x) || !ok {
			t.Errorf("Go to %d = a %T, %v", i, y, ok)
		}
		if y, ok := dyn.Go(things(member("k", x), member("n", 1)), "n"); y != 1 || !ok {
			t.Errorf("Go beside %d = a %T, %v", i, y, ok)
		}
	}
	if y, ok := dyn.Go(endless()[1], strings.Split(strings.Repeat("a", 1000), "")...); dyn.Kind(y) != api.Object || !ok {
		t.Errorf("Go round and round = a %T, %v", y, ok)
	}
}

// R1: the same of To and Odd.
func TestEndlessValues(t *testing.T) {
	l := make([]api.Value, 100)
	for i := range l {
		l[i] = api.Value{Kind: api.List, L: l}
	}
	f := []api.Pair{pair("a", null), pair("b", list(list()))}
	f[0].V = list(number(1), api.Value{Kind: api.Object, F: f})
	for _, v := range []api.Value{{Kind: api.List, L: l}, {Kind: api.List, L: l[:1]}, list(list(), l[0]), {Kind: api.Object, F: f}} {
		if x, e := dyn.To(v); x != nil || e != api.ErrArg {
			t.Errorf("To = a %T, %d", x, e)
		}
		if x := dyn.Odd(v); x != nil {
			t.Errorf("Odd = a %T", x)
		}
	}
	// A kind that has no use for L doesn't look into it.
	if x := dyn.Odd(api.Value{Kind: api.Int, N: 5, L: l}); x != int64(5) {
		t.Errorf("Odd = %v", x)
	}
}

// What is in one list twice isn't in itself.
func TestTwiceIsNotEndless(t *testing.T) {
	x, v := any(int64(1)), number(1)
	for level := 1; level < api.MaxDeep; level++ {
		x, v = many(x, x), list(v, v)
	}
	want := int64(1) << (api.MaxDeep - 1)
	if n, e := dyn.Sum(x); n != want || e != api.OK {
		t.Errorf("Sum = %d, %d", n, e)
	}
	y, ok := dyn.Go(x)
	if n, e := dyn.Sum(y); n != want || e != api.OK || !ok {
		t.Errorf("Sum of Go = %d, %d, %v", n, e, ok)
	}
	var answer, given extents
	answer.loose(y)
	given.loose(x.([]any)[0])
	seen := map[extent]int{}
	for _, a := range append(answer, given...) {
		seen[a]++
	}
	for _, a := range answer {
		if seen[a] > 1 {
			t.Fatal("Go shares memory")
		}
	}
	if w, e := dyn.From(x); !tree.Same(w, v) || e != api.OK {
		t.Errorf("From: %d", e)
	}
	wantLoose(t, "Odd", dyn.Odd(v), x)
}

// R1: lists that are deeper than calls within calls could go. A stack that is used up would end the tests.
func TestDeeperThanCalls(t *testing.T) {
	defer debug.SetMaxStack(debug.SetMaxStack(1 << 22))
	const levels = 300000
	x, v := any(int64(5)), number(5)
	for i := range levels {
		if i%2 == 0 {
			x, v = many(x, int64(1)), list(v, number(1))
		} else {
			x, v = many(int64(1), x), list(number(1), v)
		}
	}
	if n, e := dyn.Sum(x); n != 5+levels || e != api.OK {
		t.Errorf("Sum = %d, %d", n, e)
	}
	y, ok := dyn.Go(things(member("a", x)), "a")
	if n, e := dyn.Sum(y); n != 5+levels || e != api.OK || !ok {
		t.Errorf("Sum of Go = %d, %d, %v", n, e, ok)
	}
	if n, e := dyn.Sum(dyn.Odd(v)); n != 5+levels || e != api.OK {
		t.Errorf("Sum of Odd = %d, %d", n, e)
	}
	if _, e := dyn.From(x); e != api.ErrArg {
		t.Errorf("From: %d", e)
	}
	if _, e := dyn.To(v); e != api.ErrArg {
		t.Errorf("To: %d", e)
	}
}

// P4.1, P4.2: long lists take no longer than they must.
func TestLong(t *testing.T) {
	const size = 200000
	var l, strs []any
	var o dyn.Object
	for i := range size {
		s := strconv.Itoa(i)
		l, strs, o = append(l, int64(i)), append(strs, s), append(o, member(s, i))
	}
	if n, e := dyn.Sum(l); n != size*(size-1)/2 || e != api.OK {
		t.Errorf("Sum = %d, %d", n, e)
	}
	if texts, e := dyn.Texts(strs); len(texts) != size || texts[size-1] != strconv.Itoa(size-1) || e != api.OK {
		t.Errorf("Texts: %d", e)
	}
	v, e := dyn.From(o)
	if len(v.F) != size || e != api.OK {
		t.Fatalf("From: %d", e)
	}
	x, e := dyn.To(v)
	if e != api.OK {
		t.Fatalf("To: %d", e)
	}
	if y, ok := dyn.Go(x, strconv.Itoa(size-1)); y != int64(size-1) || !ok {
		t.Errorf("Go = %v, %v", y, ok)
	}
}
