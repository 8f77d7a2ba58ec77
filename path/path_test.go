package path_test

import (
	"math"
	"math/rand"
	"reflect"
	"runtime/debug"
	"slices"
	"testing"

	"cascade/api"
	"cascade/path"
	"cascade/tree"
)

// P6.1: what is right, by hand: keys, places, and how many there may be.
func TestRight(t *testing.T) {
	for _, p := range [][]api.Step{
		nil, {},
		steps(key("")), steps(key("a")), steps(key("\x00")), steps(key("\u20ac\U0001f600\ufffd\U0010ffff")), steps(key("no name")), steps(key("0")),
		steps(place(0)), steps(place(1)), steps(place(api.MaxSmall + 1)), steps(place(api.MaxNumber)),
		steps(key("a"), place(1)), steps(key("a"), key("a"), place(0), place(0), key("")),
		many(29), many(30),
	} {
		if !path.Right(p) {
			t.Errorf("Right(%v) is false", p)
		}
	}
	for _, p := range append(wrongPaths(),
		many(32), many(100000),
		steps(place(math.MaxInt)), steps(place(math.MinInt)), steps(key("a\xc3")), steps(key("\xed\xa0\x80")),
		steps(api.Step{At: -1}), steps(api.Step{At: api.MaxNumber}), steps(api.Step{Key: "\xff", Index: true}),
		append(many(30), key("")), append(many(30), place(0)),
		steps(key("a"), place(-1)), steps(place(-1), key("a")),
	) {
		if path.Right(p) {
			t.Errorf("Right(%v) is true", p)
		}
	}
}

// P6.1: each step of few pieces, alone and at each place of a path of 30.
func TestRightSteps(t *testing.T) {
	rights := 0
	for _, s := range allSteps() {
		want := right(steps(s))
		if got := path.Right(steps(s)); got != want {
			t.Fatalf("Right(%+v) = %v", s, got)
		}
		if want {
			rights++
		}
		for i := range 30 {
			p := many(30)
			p[i] = s
			if got := path.Right(p); got != want {
				t.Fatalf("Right, with %+v at %d: %v", s, i, got)
			}
		}
	}
	if rights != 7+5 {
		t.Errorf("%d steps are right", rights)
	}
}

// P6.1: Key and Place, of whatever they are given.
func TestKeyPlace(t *testing.T) {
	for _, s := range []string{"", "a", "a b", "\u20ac", "\xff", "a\xc3"} {
		if got := path.Key(s); got != (api.Step{Key: s}) {
			t.Errorf("Key(%q) = %+v", s, got)
		}
	}
	for _, n := range []int{0, 1, -1, 30, api.MaxNumber, api.MaxNumber + 1, math.MaxInt, math.MinInt} {
		if got := path.Place(n); got != (api.Step{At: n, Index: true}) {
			t.Errorf("Place(%d) = %+v", n, got)
		}
	}
}

// P6.1: Same, Under and Less, by hand.
func TestCompared(t *testing.T) {
	for _, c := range []struct {
		p, q              []api.Step
		same, under, less bool
	}{
		{nil, nil, true, true, false},
		{nil, steps(), true, true, false},
		{nil, steps(key("")), false, true, true},
		{steps(key("")), nil, false, false, false},
		{nil, steps(place(0)), false, true, true},
		{steps(key("a")), steps(key("a")), true, true, false},
		{steps(key("a")), steps(key("b")), false, false, true},
		{steps(key("b")), steps(key("a")), false, false, false},
		{steps(key("a")), steps(key("aa")), false, false, true},
		{steps(key("")), steps(key("\x00")), false, false, true},
		{steps(key("Z")), steps(key("a")), false, false, true},
		{steps(key("\uffff")), steps(key("\U00010000")), false, false, true},
		{steps(key("\u00e9")), steps(key("z")), false, false, false},
		{steps(place(9)), steps(place(10)), false, false, true},
		{steps(place(10)), steps(place(9)), false, false, false},
		{steps(place(0)), steps(place(api.MaxNumber)), false, false, true},
		{steps(key("z")), steps(place(0)), false, false, true},
		{steps(place(0)), steps(key("z")), false, false, false},
		{steps(key("")), steps(place(0)), false, false, true},
		{steps(place(0)), steps(key("")), false, false, false},
		{steps(key("a")), steps(key("a"), place(0)), false, true, true},
		{steps(key("a"), place(0)), steps(key("a")), false, false, false},
		{steps(key("a"), place(0)), steps(key("a"), place(0), key("b")), false, true, true},
		{steps(key("b")), steps(key("a"), place(0)), false, false, false},
		{steps(key("a"), place(0)), steps(key("b")), false, false, true},
		{steps(key("a"), place(1)), steps(key("a"), place(0), key("b")), false, false, false},
		{steps(key("a"), place(0), key("b")), steps(key("a"), place(1)), false, false, true},
		{steps(key("a"), place(1)), steps(place(1), key("a")), false, false, true},
		{many(30), many(30), true, true, false},
		{many(30), many(31), false, true, true},
		{many(31), many(30), false, false, false},
		// What isn't right.
		{steps(place(-1)), steps(place(0)), false, false, true},
		{steps(place(math.MinInt)), steps(place(math.MaxInt)), false, false, true},
		{steps(key("\xff")), steps(key("\xff")), true, true, false},
		{steps(key("z")), steps(key("\xff")), false, false, true},
		{steps(api.Step{Key: "a", At: 5}), steps(api.Step{Key: "b", At: 4}), false, false, true},
		{steps(api.Step{Key: "a", At: 4}), steps(api.Step{Key: "a", At: 5}), false, false, true},
		{steps(api.Step{Key: "a", At: 5}), steps(key("a")), false, false, false},
		{steps(api.Step{Key: "a", At: 5, Index: true}), steps(api.Step{Key: "b", At: 4, Index: true}), false, false, true},
		{steps(api.Step{Key: "a", At: 4, Index: true}), steps(api.Step{Key: "a", At: 5, Index: true}), false, false, true},
		{steps(api.Step{Key: "b", At: 5}), steps(api.Step{Key: "a", At: 4, Index: true}), false, false, true},
		{steps(api.Step{Key: "a", At: 4, Index: true}), steps(api.Step{Key: "b", At: 5}), false, false, false},
		{steps(api.Step{At: 1}), steps(place(0)), false, false, true},
	} {
		if got := path.Same(c.p, c.q); got != c.same {
			t.Errorf("Same(%v, %v) = %v", c.p, c.q, got)
		}
		if got := path.Under(c.p, c.q); got != c.under {
			t.Errorf("Under(%v, %v) = %v", c.p, c.q, got)
		}
		if got := path.Less(c.p, c.q); got != c.less {
			t.Errorf("Less(%v, %v) = %v", c.p, c.q, got)
		}
	}
}

// ahead is a second reading of Less, of two steps.
func ahead(s, t api.Step) bool {
	switch {
	case s.Index != t.Index:
		return !s.Index
	case s.Key == t.Key:
		return s.At < t.At
	}
	return slices.Compare([]byte(s.Key), []byte(t.Key)) < 0
}

// P6.1: all two steps of few pieces, alone, behind what is the same, and ahead of what tells otherwise.
func TestComparedSteps(t *testing.T) {
	l := allSteps()
	for _, s := range l {
		for _, u := range l {
			same, less := s == u, ahead(s, u)
			for _, c := range [][2][]api.Step{
				{steps(s), steps(u)},
				{steps(place(3), key("x"), s), steps(place(3), key("x"), u)},
				{steps(s, key("x")), steps(u, key("x"))},
			} {
				if path.Same(c[0], c[1]) != same || path.Under(c[0], c[1]) != same || path.Less(c[0], c[1]) != less {
					t.Fatalf("%v and %v: %v, %v, %v", c[0], c[1], path.Same(c[0], c[1]), path.Under(c[0], c[1]), path.Less(c[0], c[1]))
				}
			}
			if p, q := steps(s, key("a")), steps(u, place(1)); path.Same(p, q) || path.Under(p, q) || path.Less(p, q) != (less || same) {
				t.Fatalf("Less(%v, %v) = %v", p, q, path.Less(p, q))
			}
			if p, q := steps(s, place(1)), steps(u); path.Under(p, q) || path.Under(q, p) != same || path.Less(p, q) != less || path.Less(q, p) != ahead(u, s) && !same {
				t.Fatalf("%v and %v: %v, %v", p, q, path.Under(p, q), path.Less(p, q))
			}
		}
	}
}

// P6.1: paths by chance: one of two is ahead, or they are the same; and what is ahead of
// what is ahead is ahead.
func TestComparedByChance(t *testing.T) {
	r := rand.New(rand.NewSource(1))
	few := []api.Step{key(""), key("a"), key("b"), place(0), place(1), {Key: "a", At: 1}, {Key: "a", Index: true}}
	some := func() []api.Step {
		var p []api.Step
		for range r.Intn(5) {
			p = append(p, few[r.Intn(len(few))])
		}
		return p
	}
	for range 30000 {
		p, q, u := some(), some(), some()
		if got := path.Same(p, q); got != slices.Equal(p, q) {
			t.Fatalf("Same(%v, %v) = %v", p, q, got)
		}
		if got := path.Under(p, q); got != begins(p, q) {
			t.Fatalf("Under(%v, %v) = %v", p, q, got)
		}
		want := slices.CompareFunc(p, q, func(s, t api.Step) int {
			switch {
			case s == t:
				return 0
			case ahead(s, t):
				return -1
			}
			return 1
		})
		if path.Less(p, q) != (want < 0) || path.Less(q, p) != (want > 0) || path.Same(p, q) != (want == 0) {
			t.Fatalf("Less(%v, %v) = %v, Less the other way %v", p, q, path.Less(p, q), path.Less(q, p))
		}
		if path.Less(p, q) && path.Less(q, u) && !path.Less(p, u) {
			t.Fatalf("%v, %v, %v stand in no order", p, q, u)
		}
		if path.Under(p, q) && path.Less(q, p) {
			t.Fatalf("%v is under %v, and ahead of it", q, p)
		}
	}
}

// R1: paths that are no right ones may be of any length: none of these ends the program.
func TestLong(t *testing.T) {
	defer debug.SetMaxStack(debug.SetMaxStack(1 << 23))
	const n = 1 << 20
	p := make([]api.Step, n)
	q := slices.Clone(p)
	q[n-1] = place(0)
	if !path.Same(p, p) || path.Same(p, q) || path.Same(p, p[:n-1]) {
		t.Error("Same")
	}
	if !path.Under(p, p) || path.Under(p, q) || !path.Under(p[:n-1], q) || path.Under(p, p[:n-1]) {
		t.Error("Under")
	}
	if path.Less(p, p) || !path.Less(p, q) || path.Less(q, p) || !path.Less(q[:n-1], p) || path.Less(p, q[:n-1]) {
		t.Error("Less")
	}
	if path.Right(p) {
		t.Error("Right")
	}
	if v, e := path.Value(p); !zero(v) || e != api.ErrArg {
		t.Error("Value", e)
	}
	if x, ok := path.Find(null, p); !zero(x) || ok {
		t.Error("Find")
	}
	v := list(make([]api.Value, n)...)
	for i := range v.L {
		v.L[i] = number(0)
	}
	if l, e := path.Of(v); len(l) != 0 || e != api.ErrArg {
		t.Error("Of", e)
	}
}

func zero(v api.Value) bool { return reflect.DeepEqual(v, api.Value{}) }

// P6.2: Value and Of, by hand: each from the other.
func TestValueOf(t *testing.T) {
	for _, c := range []struct {
		p []api.Step
		v api.Value
	}{
		{nil, list()},
		{steps(), api.Value{Kind: api.List, L: []api.Value{}, F: []api.Pair{}}},
		{steps(key("a"), place(1)), list(str("a"), number(1))},
		{steps(key("")), list(str(""))},
		{steps(place(0)), list(number(0))},
		{steps(place(api.MaxNumber), key("0"), key("\U0001f600")), list(number(api.MaxNumber), str("0"), str("\U0001f600"))},
		{steps(place(1), key("a")), list(number(1), str("a"))},
	} {
		if v, e := path.Value(c.p); !same(v, c.v) || e != api.OK {
			t.Errorf("Value(%v) = %v, %d", c.p, v, e)
		}
		if p, e := path.Of(c.v); !slices.Equal(p, c.p) || e != api.OK {
			t.Errorf("Of(%v) = %v, %d", c.v, p, e)
		}
	}
}

// P6.2: Value of what is no right path.
func TestValueWrong(t *testing.T) {
	for _, p := range wrongPaths() {
		if v, e := path.Value(p); !zero(v) || e != api.ErrArg {
			t.Errorf("Value(%v) = %v, %d", p, v, e)
		}
		if len(p) == 1 {
			for _, q := range [][]api.Step{append(many(29), p...), append(slices.Clone(p), many(29)...)} {
				if v, e := path.Value(q); !zero(v) || e != api.ErrArg {
					t.Errorf("Value(%v) = %v, %d", q, v, e)
				}
			}
		}
	}
}

// P6.2: Of what is the Value of no right path.
func TestOfWrong(t *testing.T) {
	long := list()
	for range 31 {
		long.L = append(long.L, number(0))
	}
	if p, e := path.Of(list(long.L[:30]...)); len(p) != 30 || e != api.OK {
		t.Errorf("Of 30: %v, %d", p, e)
	}
	keys := list()
	for range 31 {
		keys.L = append(keys.L, str("a"))
	}
	for _, v := range append(wrongValues(),
		null, boolean(0), boolean(1), number(0), str(""), str("a"), object(), object(pair("a", null)),
		long, keys,
		list(null), list(boolean(0)), list(boolean(1)), list(list()), list(object()), list(list(str("a"))),
		list(number(-1)), list(number(-api.MaxNumber)), list(number(api.MaxNumber+1)), list(number(math.MaxInt64)), list(number(math.MinInt64)),
		list(str("\xff")), list(str("a"), str("\xed\xa0\x80")),
		list(str("a"), number(1), null), list(null, str("a")), list(str("a"), number(-1)), list(number(-1), str("a")),
		list(api.Value{Kind: api.String, S: "a", N: 1}), list(api.Value{Kind: api.Int, S: "a", N: 1}),
		list(api.Value{Kind: api.Int, L: []api.Value{{}}}), list(api.Value{Kind: api.String, F: []api.Pair{{}}}),
		list(api.Value{Kind: api.Enum, S: "a"}), list(api.Value{Kind: api.Ref, S: "a"}), list(api.Value{Kind: -1}),
		api.Value{Kind: api.List, N: 1, L: []api.Value{str("a")}}, api.Value{Kind: api.List, S: "a", L: []api.Value{str("a")}},
		api.Value{Kind: api.List, F: []api.Pair{{}}, L: []api.Value{str("a")}},
		api.Value{Kind: api.Object, L: []api.Value{str("a")}}, api.Value{L: []api.Value{str("a")}},
	) {
		if p, e := path.Of(v); len(p) != 0 || e != api.ErrArg {
			t.Errorf("Of(%v) = %v, %d", v, p, e)
		}
	}
}

// P6.4: a path comes again from its value, and no other one has that value.
func TestComesAgain(t *testing.T) {
	r := rand.New(rand.NewSource(2))
	for range 20000 {
		p, q := somePath(r, 30), somePath(r, 2)
		v, e := path.Value(p)
		if e != api.OK || !tree.Right(v) || len(v.L) != len(p) {
			t.Fatalf("Value(%v) = %v, %d", p, v, e)
		}
		if back, e := path.Of(v); e != api.OK || !slices.Equal(back, p) {
			t.Fatalf("Of(%v) = %v, %d", v, back, e)
		}
		p = somePath(r, 2)
		v, _ = path.Value(p)
		w, _ := path.Value(q)
		if tree.Same(v, w) != slices.Equal(p, q) {
			t.Fatalf("the values of %v and %v are %v and %v", p, q, v, w)
		}
	}
	for _, s := range allSteps() {
		v, e := path.Value(steps(s))
		if !right(steps(s)) {
			if e != api.ErrArg {
				t.Errorf("Value(%+v) = %v, %d", s, v, e)
			}
			continue
		}
		if p, e2 := path.Of(v); e != api.OK || e2 != api.OK || !slices.Equal(p, steps(s)) {
			t.Errorf("Value(%+v) = %v, %d; Of that is %v, %d", s, v, e, p, e2)
		}
	}
}

// P6.2: Of, of values by chance: right is what is a list of texts and of numbers from 0 on.
func TestOfByChance(t *testing.T) {
	r := rand.New(rand.NewSource(3))
	told := 0
	for range 20000 {
		v := someValue(r, 2)
		want := v.Kind == api.List
		for _, x := range v.L {
			want = want && (x.Kind == api.String || x.Kind == api.Int && x.N >= 0)
		}
		p, e := path.Of(v)
		if want != (e == api.OK) || !want && (e != api.ErrArg || len(p) != 0) {
			t.Fatalf("Of(%v) = %v, %d", v, p, e)
		}
		if want {
			told++
			if w, _ := path.Value(p); !same(v, w) {
				t.Fatalf("Of(%v) = %v", v, p)
			}
		}
	}
	if told < 1000 {
		t.Errorf("just %d were paths", told)
	}
}
