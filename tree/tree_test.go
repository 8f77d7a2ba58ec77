package tree_test

import (
	"math"
	"math/rand"
	"reflect"
	"slices"
	"strconv"
	"strings"
	"testing"
	"unsafe"

	"cascade/api"
	"cascade/tree"
)

// Values by hand.

var null = api.Value{}

func boolean(n int64) api.Value { return api.Value{Kind: api.Bool, N: n} }

func number(n int64) api.Value { return api.Value{Kind: api.Int, N: n} }

func str(s string) api.Value { return api.Value{Kind: api.String, S: s} }

func list(l ...api.Value) api.Value { return api.Value{Kind: api.List, L: l} }

func object(f ...api.Pair) api.Value { return api.Value{Kind: api.Object, F: f} }

func pair(key string, v api.Value) api.Pair { return api.Pair{Key: key, V: v} }

// nested is a value of that many levels: lists and objects by turns of what the bits of how say.
func nested(levels int, how int, inmost api.Value) api.Value {
	v := inmost
	for i := 1; i < levels; i++ {
		if how>>i&1 == 0 {
			v = list(v)
		} else {
			v = object(pair("k", v))
		}
	}
	return v
}

// Values by chance.

const texts = "|a|b|c|aa|ab|\u00e9|\u20ac|\U0001f600|\ufffd|\x00|a b|\"|key"

func someText(r *rand.Rand) string {
	l := strings.Split(texts, "|")
	return l[r.Intn(len(l))]
}

// someValue is a right value of at most that many levels.
func someValue(r *rand.Rand, levels int) api.Value {
	kinds := 6
	if levels == 1 {
		kinds = 4
	}
	switch r.Intn(kinds) {
	case api.Bool:
		return boolean(int64(r.Intn(2)))
	case api.Int:
		return number([]int64{0, 1, -1, 2, api.MaxNumber, -api.MaxNumber}[r.Intn(6)])
	case api.String:
		return str(someText(r))
	case api.List:
		v := list()
		for range r.Intn(4) {
			v.L = append(v.L, someValue(r, levels-1))
		}
		return v
	case api.Object:
		return someObject(r, levels)
	}
	return null
}

func someObject(r *rand.Rand, levels int) api.Value {
	v := object()
	if levels == 1 {
		return v
	}
	for range r.Intn(5) {
		key := someText(r)
		if !slices.ContainsFunc(v.F, func(p api.Pair) bool { return p.Key == key }) {
			v.F = append(v.F, pair(key, someValue(r, levels-1)))
		}
	}
	return v
}

// Readings of a value that the tests go by.

// written is another text for each right value, and in sorted form for each, but for the order of keys.
func written(v api.Value, sorted bool) string {
	s := strconv.Itoa(v.Kind) + ":" + strconv.FormatInt(v.N, 10) + strconv.Quote(v.S)
	var l []string
	for _, x := range v.L {
		l = append(l, written(x, sorted))
	}
	for _, p := range v.F {
		l = append(l, strconv.Quote(p.Key)+"="+written(p.V, sorted))
	}
	if sorted && v.Kind == api.Object {
		slices.Sort(l)
	}
	return s + "(" + strings.Join(l, ",") + ")"
}

// all are the places of v and of all values in it.
func all(v *api.Value) []*api.Value {
	l := []*api.Value{v}
	for i := range v.L {
		l = append(l, all(&v.L[i])...)
	}
	for i := range v.F {
		l = append(l, all(&v.F[i].V)...)
	}
	return l
}

// copied is a value in other memory, by the tests' own means.
func copied(v api.Value) api.Value {
	w := v
	w.L = slices.Clone(v.L)
	for i := range w.L {
		w.L[i] = copied(w.L[i])
	}
	w.F = slices.Clone(v.F)
	for i := range w.F {
		w.F[i].V = copied(w.F[i].V)
	}
	return w
}

// shuffled is v with the pairs of all objects in it in some order.
func shuffled(r *rand.Rand, v api.Value) api.Value {
	w := copied(v)
	for _, x := range all(&w) {
		r.Shuffle(len(x.F), func(i, j int) { x.F[i], x.F[j] = x.F[j], x.F[i] })
	}
	return w
}

// spoil makes a right value wrong in one place of it.
func spoil(r *rand.Rand, v *api.Value) {
	l := all(v)
	x := l[r.Intn(len(l))]
	switch x.Kind {
	case api.Null:
		wrongs := []api.Value{{N: 1}, {S: "a"}, {L: []api.Value{{}}}, {F: []api.Pair{{}}}, {Kind: -1}, {Kind: api.Enum, S: "a"}, {Kind: api.Ref, S: "a"}}
		*x = wrongs[r.Intn(len(wrongs))]
	case api.Bool:
		x.N = []int64{2, -1, math.MaxInt64, math.MinInt64}[r.Intn(4)]
	case api.Int:
		x.N = []int64{api.MaxNumber + 1, -api.MaxNumber - 1, math.MaxInt64, math.MinInt64}[r.Intn(4)]
	case api.String:
		x.S += []string{"\xff", "\xc3", "\xed\xa0\x80", "\x80"}[r.Intn(4)]
	case api.List:
		x.L = append(x.L, api.Value{Kind: api.Object + 1 + r.Intn(5)})
	case api.Object:
		wrong := pair("\xff", null)
		if len(x.F) > 0 && r.Intn(2) == 0 {
			wrong = pair(x.F[r.Intn(len(x.F))].Key, null)
		}
		x.F = append(x.F, wrong)
	}
}

// extent is where a list or a text stands in memory.
type extent struct{ from, end uintptr }

// memory is where the lists and the texts of a value stand, all their spare room too.
func memory(v api.Value) []extent {
	var l []extent
	add := func(p unsafe.Pointer, size uintptr) {
		if size > 0 {
			l = append(l, extent{uintptr(p), uintptr(p) + size})
		}
	}
	add(unsafe.Pointer(unsafe.StringData(v.S)), uintptr(len(v.S)))
	add(unsafe.Pointer(unsafe.SliceData(v.L)), uintptr(cap(v.L))*unsafe.Sizeof(api.Value{}))
	add(unsafe.Pointer(unsafe.SliceData(v.F)), uintptr(cap(v.F))*unsafe.Sizeof(api.Pair{}))
	for _, x := range v.L {
		l = append(l, memory(x)...)
	}
	for _, p := range v.F {
		add(unsafe.Pointer(unsafe.StringData(p.Key)), uintptr(len(p.Key)))
		l = append(l, memory(p.V)...)
	}
	return l
}

func meet(a, b extent) bool { return a.from < b.end && b.from < a.end }

// wantNew fails, if what is answered shares memory with what was given, or within itself.
func wantNew(t *testing.T, what string, answer api.Value, given ...api.Value) {
	t.Helper()
	l := memory(answer)
	for i, a := range l {
		for _, g := range given {
			if slices.ContainsFunc(memory(g), func(b extent) bool { return meet(a, b) }) {
				t.Errorf("%s: %v shares memory with %v", what, answer, g)
			}
		}
		if slices.ContainsFunc(l[i+1:], func(b extent) bool { return meet(a, b) }) {
			t.Errorf("%s: %v shares memory within itself", what, answer)
		}
	}
}

// P3.1: what is right, by hand: each kind, and each of its edges.
func TestRight(t *testing.T) {
	for _, v := range []api.Value{
		null,
		{L: []api.Value{}, F: []api.Pair{}},
		boolean(0), boolean(1),
		number(0), number(1), number(-1), number(api.MaxSmall + 1), number(api.MaxNumber), number(-api.MaxNumber),
		str(""), str("a"), str("\x00"), str("\u20ac\U0001f600\ufffd\U0010ffff"), str(strings.Repeat("a", 100000)),
		list(), {Kind: api.List, L: []api.Value{}, F: []api.Pair{}}, list(null), list(null, null), list(number(1), str("a"), list(), object()),
		object(), {Kind: api.Object, L: []api.Value{}, F: []api.Pair{}}, object(pair("", null)), object(pair("a", null), pair("b", null)),
		object(pair("a", null), pair("A", null), pair("a ", null), pair("aa", null), pair("", null), pair("\u00e9", null), pair("e\u0301", null)),
		object(pair("a", object(pair("a", object(pair("a", null)))))),
		list(object(pair("a", null)), object(pair("a", null))),
	} {
		if !tree.Right(v) {
			t.Errorf("Right(%v) is false", v)
		}
	}
}

// P3.1: what isn't right, by hand; and what the other functions make of it.
func TestWrong(t *testing.T) {
	for _, v := range []api.Value{
		{Kind: -1}, {Kind: api.Enum}, {Kind: api.Enum, S: "A"}, {Kind: api.Ref}, {Kind: api.Ref, S: "a"}, {Kind: 8}, {Kind: math.MaxInt}, {Kind: math.MinInt},
		{N: 1}, {N: -1}, {S: "a"}, {L: []api.Value{{}}}, {F: []api.Pair{{}}},
		boolean(2), boolean(-1), boolean(256), boolean(math.MinInt64),
		{Kind: api.Bool, N: 1, S: "a"}, {Kind: api.Bool, N: 1, L: []api.Value{{}}}, {Kind: api.Bool, N: 1, F: []api.Pair{{}}},
		number(api.MaxNumber + 1), number(-api.MaxNumber - 1), number(math.MaxInt64), number(math.MinInt64),
		{Kind: api.Int, S: "a"}, {Kind: api.Int, L: []api.Value{{}}}, {Kind: api.Int, F: []api.Pair{{}}},
		str("\xff"), str("a\xc3"), str("\xed\xa0\x80"), str("\xf4\x90\x80\x80"), str("\xc0\x80"),
		{Kind: api.String, N: 1}, {Kind: api.String, L: []api.Value{{}}}, {Kind: api.String, F: []api.Pair{{}}},
		{Kind: api.List, N: 1}, {Kind: api.List, S: "a"}, {Kind: api.List, F: []api.Pair{{}}},
		list(boolean(2)), list(null, null, boolean(2)), list(api.Value{Kind: api.Enum, S: "A"}),
		{Kind: api.Object, N: 1}, {Kind: api.Object, S: "a"}, {Kind: api.Object, L: []api.Value{{}}},
		object(pair("a", boolean(2))), object(pair("a", null), pair("b", boolean(2))),
		object(pair("\xff", null)), object(pair("a", null), pair("b\xc3", null)),
		object(pair("a", null), pair("a", null)), object(pair("", null), pair("", null)), object(pair("a", null), pair("b", null), pair("a", number(1))),
		list(object(pair("a", list(null, object(pair("b", null), pair("b", null)))))),
	} {
		wantWrong(t, v)
	}
}

// wantWrong fails, if one of the functions takes v for a right value.
func wantWrong(t *testing.T, v api.Value) {
	t.Helper()
	zero := func(w api.Value) bool { return reflect.DeepEqual(w, api.Value{}) }
	if tree.Right(v) {
		t.Errorf("Right(%v) is true", v)
	}
	if tree.Same(v, v) || tree.Same(v, null) || tree.Same(null, v) {
		t.Errorf("%v is Same as something", v)
	}
	if tree.Alike(v, v) || tree.Alike(v, null) || tree.Alike(null, v) {
		t.Errorf("%v is Alike something", v)
	}
	if n := tree.Count(v); n != 0 {
		t.Errorf("Count(%v) = %d", v, n)
	}
	if w := tree.Clone(v); !zero(w) {
		t.Errorf("Clone(%v) = %v", v, w)
	}
	for _, key := range []string{"", "a", "b", "k", "\xff"} {
		if w, ok := tree.Get(v, key); !zero(w) || ok {
			t.Errorf("Get(%v, %q) = %v, %v", v, key, w, ok)
		}
		if w, e := tree.With(v, key, null); !zero(w) || e != api.ErrArg {
			t.Errorf("With(%v, %q, null) = %v, %d", v, key, w, e)
		}
		if w, e := tree.Ordered(v, []string{key, key}); !zero(w) || e != api.ErrArg {
			t.Errorf("Ordered(%v, %q twice) = %v, %d", v, key, w, e)
		}
	}
	if w, e := tree.With(object(), "a", v); !zero(w) || e != api.ErrArg {
		t.Errorf("With({}, a, %v) = %v, %d", v, w, e)
	}
}

// P3.1: MaxDeep, in lists, in objects and in both.
func TestDeep(t *testing.T) {
	for how := range 1 << api.MaxDeep {
		for _, inmost := range []api.Value{null, list(), object(), str("a")} {
			if v := nested(api.MaxDeep, how, inmost); !tree.Right(v) || tree.Count(v) != api.MaxDeep {
				t.Fatalf("%v isn't right", v)
			}
			if v := nested(api.MaxDeep+1, how, inmost); tree.Right(v) {
				t.Fatalf("%v is right", v)
			}
		}
	}
	deep := nested(api.MaxDeep, 0, null)
	wantWrong(t, list(deep))
	wantWrong(t, object(pair("k", deep)))
	wantWrong(t, list(null, null, deep, null))
	wantWrong(t, object(pair("a", null), pair("k", deep), pair("b", null)))
	wantWrong(t, nested(1000, 0, null))
	if v := list(deep.L[0], deep.L[0], null, deep.L[0]); !tree.Right(v) || tree.Count(v) != 35 {
		t.Errorf("%v isn't right, or is of %d values", v, tree.Count(v))
	}
}

// R1: a list, or an object, that holds itself has no end, and isn't right.
func TestHoldsItself(t *testing.T) {
	l := make([]api.Value, 30)
	for i := range l {
		l[i] = api.Value{Kind: api.List, L: l}
	}
	f := make([]api.Pair, 30)
	for i := range f {
		f[i] = pair(strconv.Itoa(i), api.Value{Kind: api.Object, F: f})
	}
	for _, v := range []api.Value{{Kind: api.List, L: l}, {Kind: api.Object, F: f}} {
		if tree.Right(v) || tree.Same(v, v) || tree.Alike(v, v) || tree.Count(v) != 0 || tree.Clone(v).Kind != api.Null {
			t.Error("a value that holds itself is right")
		}
		if _, ok := tree.Get(v, "0"); ok {
			t.Error("Get in a value that holds itself")
		}
		if _, e := tree.With(v, "0", null); e != api.ErrArg {
			t.Error(e)
		}
		if _, e := tree.With(object(), "0", v); e != api.ErrArg {
			t.Error(e)
		}
		if _, e := tree.Ordered(v, nil); e != api.ErrArg {
			t.Error(e)
		}
	}
}

// P3.1: a right value is right, and one that is spoilt in any one place isn't.
func TestRightByChance(t *testing.T) {
	r := rand.New(rand.NewSource(1))
	for range 20000 {
		v := someValue(r, 1+r.Intn(6))
		if !tree.Right(v) {
			t.Fatalf("Right(%v) is false", v)
		}
		if n := tree.Count(v); n != len(all(&v)) {
			t.Fatalf("Count(%v) = %d", v, n)
		}
		spoil(r, &v)
		wantWrong(t, v)
	}
}

// P3.1: Same and Alike, by hand.
func TestSameAlike(t *testing.T) {
	ab := object(pair("a", number(1)), pair("b", number(2)))
	ba := object(pair("b", number(2)), pair("a", number(1)))
	for _, c := range []struct {
		a, b        api.Value
		same, alike bool
	}{
		{null, null, true, true},
		{null, api.Value{L: []api.Value{}, F: []api.Pair{}}, true, true},
		{list(), api.Value{Kind: api.List, L: []api.Value{}, F: []api.Pair{}}, true, true},
		{object(), api.Value{Kind: api.Object, L: []api.Value{}, F: []api.Pair{}}, true, true},
		{null, boolean(0), false, false},
		{boolean(0), number(0), false, false},
		{boolean(1), number(1), false, false},
		{null, str(""), false, false},
		{null, list(), false, false},
		{list(), object(), false, false},
		{boolean(0), boolean(1), false, false},
		{number(1), number(1), true, true},
		{number(1), number(-1), false, false},
		{number(api.MaxNumber), number(api.MaxNumber), true, true},
		{number(api.MaxNumber), number(api.MaxNumber - 1), false, false},
		{str("a"), str("a"), true, true},
		{str("a"), str("A"), false, false},
		{str("\u00e9"), str("e\u0301"), false, false},
		{list(number(1), number(2)), list(number(1), number(2)), true, true},
		{list(number(1), number(2)), list(number(2), number(1)), false, false},
		{list(number(1)), list(number(1), number(1)), false, false},
		{list(list(), null), list(null, list()), false, false},
		{ab, ab, true, true},
		{ab, ba, false, true},
		{ab, object(pair("a", number(2)), pair("b", number(1))), false, false},
		{ab, object(pair("a", number(1))), false, false},
		{ab, object(pair("a", number(1)), pair("c", number(2))), false, false},
		{object(pair("a", null)), object(pair("b", null)), false, false},
		{object(pair("a", null)), object(), false, false},
		{list(ab, ba), list(ba, ab), false, true},
		{list(ab, null), list(null, ba), false, false},
		{object(pair("x", ab), pair("y", list(ba))), object(pair("y", list(ab)), pair("x", ba)), false, true},
		{object(pair("x", ab), pair("y", null)), object(pair("x", null), pair("y", ab)), false, false},
	} {
		if got := tree.Same(c.a, c.b); got != c.same {
			t.Errorf("Same(%v, %v) = %v", c.a, c.b, got)
		}
		if got := tree.Same(c.b, c.a); got != c.same {
			t.Errorf("Same(%v, %v) = %v", c.b, c.a, got)
		}
		if got := tree.Alike(c.a, c.b); got != c.alike {
			t.Errorf("Alike(%v, %v) = %v", c.a, c.b, got)
		}
		if got := tree.Alike(c.b, c.a); got != c.alike {
			t.Errorf("Alike(%v, %v) = %v", c.b, c.a, got)
		}
	}
}

// P3.1, P3.3: Same and Alike against how values are written; what is Same is Alike.
func TestSameAlikeByChance(t *testing.T) {
	r := rand.New(rand.NewSource(2))
	for range 20000 {
		a := someValue(r, 1+r.Intn(5))
		b := shuffled(r, a)
		if r.Intn(2) == 0 {
			l := all(&b)
			*l[r.Intn(len(l))] = someValue(r, 2)
		}
		same, alike := tree.Same(a, b), tree.Alike(a, b)
		if same != (written(a, false) == written(b, false)) {
			t.Fatalf("Same(%v, %v) = %v", a, b, same)
		}
		if alike != (written(a, true) == written(b, true)) {
			t.Fatalf("Alike(%v, %v) = %v", a, b, alike)
		}
		if same && !alike {
			t.Fatalf("%v and %v are Same, and not Alike", a, b)
		}
	}
}

// P3.1: Count, by hand.
func TestCount(t *testing.T) {
	for _, c := range []struct {
		v    api.Value
		want int
	}{
		{null, 1},
		{number(5), 1},
		{str("abc"), 1},
		{list(), 1},
		{object(), 1},
		{list(number(1), object(pair("a", number(2)))), 4},
		{list(list(), list(), list(null)), 5},
		{object(pair("a", object(pair("b", null))), pair("c", null)), 4},
	} {
		if n := tree.Count(c.v); n != c.want {
			t.Errorf("Count(%v) = %d", c.v, n)
		}
	}
}

// P3.1: Get: keys that are there, keys that aren't, and what is no object.
func TestGet(t *testing.T) {
	inner := object(pair("x", null), pair("deep", list(number(7))))
	v := object(pair("a", number(1)), pair("", str("e")), pair("n", null), pair("o", inner))
	for _, c := range []struct {
		v    api.Value
		key  string
		want api.Value
		ok   bool
	}{
		{v, "a", number(1), true},
		{v, "", str("e"), true},
		{v, "n", null, true},
		{v, "o", inner, true},
		{v, "x", null, false},
		{v, "A", null, false},
		{v, "aa", null, false},
		{v, "\xff", null, false},
		{object(), "", null, false},
		{list(v), "a", null, false},
		{null, "", null, false},
		{str("a"), "a", null, false},
	} {
		if w, ok := tree.Get(c.v, c.key); !reflect.DeepEqual(w, c.want) || ok != c.ok {
			t.Errorf("Get(%v, %q) = %v, %v", c.v, c.key, w, ok)
		}
	}
}

// P3.2: With, by hand.
func TestWith(t *testing.T) {
	one, two := number(1), number(2)
	v := object(pair("b", one), pair("a", list(one)))
	for _, c := range []struct {
		v    api.Value
		key  string
		x    api.Value
		want api.Value
	}{
		{object(), "a", one, object(pair("a", one))},
		{object(), "", null, object(pair("", null))},
		{v, "b", two, object(pair("b", two), pair("a", list(one)))},
		{v, "a", two, object(pair("b", one), pair("a", two))},
		{v, "c", two, object(pair("b", one), pair("a", list(one)), pair("c", two))},
		{v, "A", two, object(pair("b", one), pair("a", list(one)), pair("A", two))},
		{v, "", v, object(pair("b", one), pair("a", list(one)), pair("", v))},
		{v, "b", v, object(pair("b", v), pair("a", list(one)))},
		{v, "b", one, v},
	} {
		if w, e := tree.With(c.v, c.key, c.x); !reflect.DeepEqual(w, c.want) || e != api.OK {
			t.Errorf("With(%v, %q, %v) = %v, %d", c.v, c.key, c.x, w, e)
		}
	}
}

// P3.2: With of what is none: ErrArg, ahead of ErrDeep.
func TestWithWrong(t *testing.T) {
	deep := nested(api.MaxDeep, 0, null)
	v := object(pair("a", null))
	for _, c := range []struct {
		v    api.Value
		key  string
		x    api.Value
		want api.Errno
	}{
		{null, "a", null, api.ErrArg},
		{number(1), "a", null, api.ErrArg},
		{str("a"), "a", null, api.ErrArg},
		{list(), "a", null, api.ErrArg},
		{list(v), "a", null, api.ErrArg},
		{api.Value{Kind: api.Enum, S: "a"}, "a", null, api.ErrArg},
		{object(pair("a", boolean(2))), "a", null, api.ErrArg},
		{object(pair("a", deep)), "a", null, api.ErrArg},
		{v, "\xff", null, api.ErrArg},
		{v, "a\xc3", null, api.ErrArg},
		{v, "a", boolean(2), api.ErrArg},
		{v, "b", str("\xff"), api.ErrArg},
		{v, "a", list(deep), api.ErrArg},
		{null, "a", deep, api.ErrArg},
		{v, "\xff", deep, api.ErrArg},
		{v, "a", deep, api.ErrDeep},
		{v, "b", deep, api.ErrDeep},
		{object(), "b", nested(api.MaxDeep, -1, list()), api.ErrDeep},
	} {
		if w, e := tree.With(c.v, c.key, c.x); !reflect.DeepEqual(w, null) || e != c.want {
			t.Errorf("With(%v, %q, %v) = %v, %d", c.v, c.key, c.x, w, e)
		}
	}
}

// P3.2: With at MaxDeep: what stood there before is gone, however deep it was.
func TestWithDeep(t *testing.T) {
	deep := nested(api.MaxDeep-1, 0, null)
	v := object(pair("a", deep), pair("b", null))
	for _, key := range []string{"a", "b", "c"} {
		if w, e := tree.With(v, key, deep); e != api.OK || !tree.Right(w) {
			t.Errorf("With(%v, %q, deep) = %v, %d", v, key, w, e)
		}
	}
	w, e := tree.With(v, "a", number(1))
	if want := object(pair("a", number(1)), pair("b", null)); !reflect.DeepEqual(w, want) || e != api.OK {
		t.Errorf("With(%v, a, 1) = %v, %d", v, w, e)
	}
}

// P3.2: what With puts in is what Get finds, and all else is as it was.
func TestWithByChance(t *testing.T) {
	r := rand.New(rand.NewSource(3))
	for range 10000 {
		v, key, x := someObject(r, 5), someText(r), someValue(r, 4)
		var want []api.Pair
		in := false
		for _, p := range v.F {
			if p.Key == key {
				p, in = pair(key, x), true
			}
			want = append(want, p)
		}
		if !in {
			want = append(want, pair(key, x))
		}
		w, e := tree.With(v, key, x)
		if e != api.OK || written(w, false) != written(object(want...), false) {
			t.Fatalf("With(%v, %q, %v) = %v, %d", v, key, x, w, e)
		}
		if y, ok := tree.Get(w, key); !ok || !tree.Same(x, y) {
			t.Fatalf("Get(%v, %q) = %v, %v", w, key, y, ok)
		}
	}
}

// P3.2: Ordered, by hand.
func TestOrdered(t *testing.T) {
	a, b, c, e := pair("a", number(1)), pair("b", object(pair("z", null), pair("a", null))), pair("c", list()), pair("", str("e"))
	v := object(c, a, e, b)
	for _, d := range []struct {
		keys []string
		want api.Value
	}{
		{nil, v},
		{[]string{}, v},
		{[]string{"x", "y"}, v},
		{[]string{"a", "b", "c", ""}, object(a, b, c, e)},
		{[]string{"", "c", "b", "a"}, object(e, c, b, a)},
		{[]string{"b"}, object(b, c, a, e)},
		{[]string{"x", "b", "y", "a"}, object(b, a, c, e)},
		{[]string{"z", "a"}, object(a, c, e, b)},
		{[]string{"\xff", ""}, object(e, c, a, b)},
	} {
		if w, err := tree.Ordered(v, d.keys); !reflect.DeepEqual(w, d.want) || err != api.OK {
			t.Errorf("Ordered(%v, %q) = %v, %d", v, d.keys, w, err)
		}
	}
	if w, err := tree.Ordered(object(), []string{"a"}); !reflect.DeepEqual(w, object()) || err != api.OK {
		t.Errorf("Ordered({}, a) = %v, %d", w, err)
	}
}

// P3.2: Ordered of what is none, and by keys that stand twice.
func TestOrderedWrong(t *testing.T) {
	v := object(pair("a", null), pair("b", null))
	for _, c := range []struct {
		v    api.Value
		keys []string
		want api.Errno
	}{
		{null, nil, api.ErrArg},
		{number(1), []string{"a"}, api.ErrArg},
		{list(v), []string{"a"}, api.ErrArg},
		{str("a"), []string{"a", "a"}, api.ErrArg},
		{object(pair("a", null), pair("a", null)), []string{"a"}, api.ErrArg},
		{object(pair("a", boolean(2))), []string{"a", "a"}, api.ErrArg},
		{object(pair("a", nested(api.MaxDeep, 0, null))), nil, api.ErrArg},
		{v, []string{"a", "a"}, api.ErrTwice},
		{v, []string{"a", "b", "a"}, api.ErrTwice},
		{v, []string{"x", "a", "x"}, api.ErrTwice},
		{v, []string{"", ""}, api.ErrTwice},
		{v, []string{"\xff", "\xff"}, api.ErrTwice},
		{object(), []string{"a", "b", "b"}, api.ErrTwice},
	} {
		if w, e := tree.Ordered(c.v, c.keys); !reflect.DeepEqual(w, null) || e != c.want {
			t.Errorf("Ordered(%v, %q) = %v, %d", c.v, c.keys, w, e)
		}
	}
}

// P3.2, P3.3: Ordered against pairs picked one by one; ordered one is alike what one was.
func TestOrderedByChance(t *testing.T) {
	r := rand.New(rand.NewSource(4))
	for range 10000 {
		v := someObject(r, 4)
		keys := strings.Split(texts+"|x|y", "|")
		r.Shuffle(len(keys), func(i, j int) { keys[i], keys[j] = keys[j], keys[i] })
		keys = keys[:r.Intn(len(keys)+1)]
		var want []api.Pair
		for _, key := range keys {
			for _, p := range v.F {
				if p.Key == key {
					want = append(want, p)
				}
			}
		}
		for _, p := range v.F {
			if !slices.Contains(keys, p.Key) {
				want = append(want, p)
			}
		}
		w, e := tree.Ordered(v, keys)
		if e != api.OK || written(w, false) != written(object(want...), false) {
			t.Fatalf("Ordered(%v, %q) = %v, %d", v, keys, w, e)
		}
		if !tree.Alike(v, w) {
			t.Fatalf("Ordered(%v, %q) = %v isn't alike", v, keys, w)
		}
	}
}

// P3.1: Clone is the same.
func TestClone(t *testing.T) {
	r := rand.New(rand.NewSource(5))
	for range 10000 {
		v := someValue(r, 1+r.Intn(6))
		w := tree.Clone(v)
		if written(w, false) != written(v, false) || !tree.Same(v, w) {
			t.Fatalf("Clone(%v) = %v", v, w)
		}
	}
}

// shared is an object whose lists and texts stand in one memory, with spare room behind them.
func shared() api.Value {
	letters := strings.Repeat("abc", 2)
	l := []api.Value{number(1), str(letters[1:4]), list(number(3)), str("spare"), str("spare")}[:3]
	f := []api.Pair{pair(letters[:2], list(l...)), pair(letters[1:], str(letters)), pair("spare", null)}[:2]
	return object(pair("x", list(l...)), pair("y", api.Value{Kind: api.List, L: l}), pair("z", api.Value{Kind: api.List, L: l[:2]}),
		pair("o", api.Value{Kind: api.Object, F: f}), pair("p", api.Value{Kind: api.Object, F: f[1:]}), pair(letters[2:], null))
}

// R5: what is answered is new memory, and what is handed in is left as it is, its spare room too.
func TestMemory(t *testing.T) {
	v, x := shared(), list(str(strings.Repeat("x", 3)), list(null))
	key := strings.Repeat("k", 3)
	spare := v.F[:cap(v.F)]
	y, o := v.F[1].V.L, v.F[3].V.F
	was, wasSpare, wasY, wasO, wasX := copied(v), slices.Clone(spare), slices.Clone(y[:cap(y)]), slices.Clone(o[:cap(o)]), copied(x)
	wantNew(t, "Clone", tree.Clone(v), v)
	for _, p := range v.F {
		w, ok := tree.Get(v, p.Key)
		if !ok {
			t.Errorf("%q isn't there", p.Key)
		}
		wantNew(t, "Get", w, v)
	}
	for _, k := range []string{"x", "y", "o", key} {
		w, e := tree.With(v, k, x)
		if e != api.OK {
			t.Errorf("With: %d", e)
		}
		wantNew(t, "With", w, v, x, str(k))
		w, e = tree.With(v, k, v)
		if e != api.OK {
			t.Errorf("With: %d", e)
		}
		wantNew(t, "With", w, v, str(k))
	}
	keys := []string{strings.Repeat("o", 1), "p", "q", "x"}
	wasKeys := slices.Clone(keys)
	w, e := tree.Ordered(v, keys)
	if e != api.OK {
		t.Errorf("Ordered: %d", e)
	}
	wantNew(t, "Ordered", w, v, str(keys[0]))
	tree.Same(v, w)
	tree.Alike(v, w)
	tree.Count(v)
	if !reflect.DeepEqual(v, was) || !reflect.DeepEqual(x, wasX) || !reflect.DeepEqual(keys, wasKeys) {
		t.Error("what was handed in is changed")
	}
	if !reflect.DeepEqual(spare, wasSpare) || !reflect.DeepEqual(y[:cap(y)], wasY) || !reflect.DeepEqual(o[:cap(o)], wasO) {
		t.Error("the spare room of what was handed in is changed")
	}
}

// R4, R5: spare room behind an object's pairs is where With must not put a pair.
func TestSpareRoom(t *testing.T) {
	f := []api.Pair{pair("a", null), pair("b", null), pair("spare", number(1))}
	v := api.Value{Kind: api.Object, F: f[:2]}
	if w, e := tree.With(v, "c", number(2)); e != api.OK || len(w.F) != 3 {
		t.Errorf("With = %v, %d", w, e)
	}
	if _, e := tree.With(v, "c", nested(api.MaxDeep, 0, null)); e != api.ErrDeep {
		t.Errorf("With: %d", e)
	}
	if !reflect.DeepEqual(f[2], pair("spare", number(1))) {
		t.Errorf("the spare room is %v", f[2])
	}
}

// P3.1, P3.2: long objects and lists take no longer than they must.
func TestLong(t *testing.T) {
	const size = 100000
	v, turned := object(), object()
	keys := make([]string, size)
	for i := range size {
		keys[i] = strconv.Itoa(size - 1 - i)
		v.F = append(v.F, pair(strconv.Itoa(i), list(number(int64(i)))))
		turned.F = append(turned.F, pair(keys[i], list(number(int64(size-1-i)))))
	}
	if !tree.Right(v) || tree.Count(v) != 2*size+1 || tree.Same(v, turned) || !tree.Alike(v, turned) {
		t.Error("a long object")
	}
	if w, e := tree.Ordered(v, keys); e != api.OK || !tree.Same(w, turned) {
		t.Errorf("Ordered: %d", e)
	}
	if w, e := tree.With(v, "x", v.F[0].V); e != api.OK || len(w.F) != size+1 {
		t.Errorf("With: %d", e)
	}
	v.F = append(v.F, pair("7", null))
	if tree.Right(v) {
		t.Error("a key stands twice")
	}
}

// P3.2: many that aren't among the keys stay in the order in which they were.
func TestOrderedLong(t *testing.T) {
	const size = 1000
	v := object()
	for i := range size {
		v.F = append(v.F, pair(strconv.Itoa(i), number(int64(i))))
	}
	var keys []string
	var named, others []api.Pair
	for i := range size {
		// 7 and size have no factor in common: each pair is met once.
		p := v.F[(size-i)*7%size]
		if i%3 == 0 {
			keys, named = append(keys, p.Key), append(named, p)
		}
	}
	for _, p := range v.F {
		if !slices.Contains(keys, p.Key) {
			others = append(others, p)
		}
	}
	if w, e := tree.Ordered(v, keys); e != api.OK || !tree.Same(w, object(append(named, others...)...)) {
		t.Errorf("Ordered = %v, %d", w, e)
	}
}
