package lit_test

import (
	"math/rand"
	"regexp"
	"slices"
	"strconv"
	"strings"
	"testing"
	"unsafe"

	"cascade/api"
	"cascade/lit"
	"cascade/token"
	"cascade/tree"
)

// A second reading of the chapter: by patterns, by layer 3, and by a stack of what must come.

var (
	aName  = regexp.MustCompile(`^[A-Za-z_][0-9A-Za-z_]*$`)
	aWraps = regexp.MustCompile(`^!?(?:\[!?){0,4}$`)
)

const noText = "\xff"

// rightly is a second reading of RightValue: what is a literal's alone is changed
// into what layer 3 knows, right or wrong.
func rightly(v api.Value) bool {
	return tree.Right(known(v, 0))
}

func known(v api.Value, level int) api.Value {
	if level > 20 {
		return v
	}
	v.L, v.F = slices.Clone(v.L), slices.Clone(v.F)
	for i := range v.L {
		v.L[i] = known(v.L[i], level+1)
	}
	for i := range v.F {
		v.F[i].V = known(v.F[i].V, level+1)
		if !aName.MatchString(v.F[i].Key) {
			v.F[i].Key = noText
		}
	}
	if v.Kind == api.Enum && slices.Contains([]string{"null", "true", "false"}, v.S) || v.Kind >= api.Enum && !aName.MatchString(v.S) {
		v.S = noText
	}
	if v.Kind == api.Enum || v.Kind == api.Ref {
		v.Kind = api.String
	}
	return v
}

// tokensOf answers the tokens of a right literal, without places.
func tokensOf(v api.Value) []token.Token {
	one := func(kind int, s string) []token.Token { return []token.Token{{Kind: kind, S: s}} }
	switch v.Kind {
	case api.Null:
		return one(2, "null")
	case api.Bool:
		return one(2, []string{"false", "true"}[v.N])
	case api.Int:
		return one(3, strconv.FormatInt(v.N, 10))
	case api.String:
		return one(4, v.S)
	case api.Enum:
		return one(2, v.S)
	case api.Ref:
		return append(one(1, "$"), one(2, v.S)...)
	case api.List:
		l := one(1, "[")
		for _, x := range v.L {
			l = append(l, tokensOf(x)...)
		}
		return append(l, one(1, "]")...)
	}
	l := one(1, "{")
	for _, p := range v.F {
		l = append(append(append(l, one(2, p.Key)...), one(1, ":")...), tokensOf(p.V)...)
	}
	return append(l, one(1, "}")...)
}

// written is a second reading of what ShowValue writes of right literals: its tokens, with few blanks.
func written(v api.Value) string {
	s := token.Plain(tokensOf(v))
	var b strings.Builder
	inQuotes := false
	for i := 0; i < len(s); i++ {
		switch {
		case inQuotes && s[i] == '\\':
			b.WriteByte(s[i])
			i++
		case s[i] == '"':
			inQuotes = !inQuotes
		case s[i] == ' ' && !inQuotes:
			last, next := s[i-1], s[i+1]
			switch {
			case strings.IndexByte("[{$", last) >= 0 || strings.IndexByte("]}:", next) >= 0:
			case last == ':':
				b.WriteByte(' ')
			default:
				b.WriteString(", ")
			}
			continue
		}
		b.WriteByte(s[i])
	}
	return b.String()
}

// placeless answers tokens with no places.
func placeless(l []token.Token) []token.Token {
	l = slices.Clone(l)
	for i := range l {
		l[i].At = 0
	}
	return l
}

// model is a second reading of a reader.
type model struct {
	l      []token.Token
	length int
	f      api.Fault
}

func newModel(s string) *model {
	l, f := token.Lex(s)
	return &model{l, len(s), f}
}

func (m *model) at(i int) int {
	if i >= len(m.l) {
		return m.length
	}
	return m.l[i].At
}

func (m *model) is(i int, s string) bool {
	return i < len(m.l) && m.l[i].Kind <= 2 && m.l[i].S == s
}

func (m *model) wrong(i int, e api.Errno) (int, api.Fault) {
	return i, api.Fault{E: e, At: m.at(i)}
}

// value answers how many tokens are a literal's, or how that fails.
func (m *model) value(deep int, constant bool) (int, api.Fault) {
	goals := []string{"value"}
	var keys [][]string
	open := 0
	for i := 0; ; i++ {
		if len(goals) == 0 {
			return i, api.Fault{}
		}
		if i == len(m.l) {
			return m.wrong(i, api.ErrForm)
		}
		goal := goals[len(goals)-1]
		if goal == "item" && m.is(i, "]") || goal == "key" && m.is(i, "}") {
			if goal == "key" {
				keys = keys[:len(keys)-1]
			}
			goals = goals[:len(goals)-1]
			open--
			continue
		}
		if goal == "item" {
			goals = append(goals, "value")
			goal = "value"
		}
		x := m.l[i]
		switch {
		case goal == "value" && open >= deep:
			return m.wrong(i, api.ErrDeep)
		case goal == "value" && x.Kind > 1:
			goals = goals[:len(goals)-1]
		case goal == "value" && x.S == "[":
			goals[len(goals)-1] = "item"
			open++
		case goal == "value" && x.S == "{":
			goals[len(goals)-1] = "key"
			keys = append(keys, nil)
			open++
		case goal == "value" && x.S == "$" && !constant:
			goals[len(goals)-1] = "name"
		case goal == "key" && x.Kind == 2:
			mine := keys[len(keys)-1]
			if slices.Contains(mine, x.S) {
				return m.wrong(i, api.ErrTwice)
			}
			keys[len(keys)-1] = append(mine, x.S)
			goals = append(goals, "value", ":")
		case goal == ":" && m.is(i, ":"), goal == "name" && x.Kind == 2:
			goals = goals[:len(goals)-1]
		default:
			return m.wrong(i, api.ErrForm)
		}
	}
}

// typ answers a type, and how many tokens it has; or how that fails.
func (m *model) typ() (api.Type, int, api.Fault) {
	i := 0
	for m.is(i, "[") {
		if i == 4 {
			_, f := m.wrong(i, api.ErrDeep)
			return api.Type{}, i, f
		}
		i++
	}
	lists := i
	if i == len(m.l) || m.l[i].Kind != 2 {
		_, f := m.wrong(i, api.ErrForm)
		return api.Type{}, i, f
	}
	t := api.Type{Name: m.l[i].S}
	for i++; ; i++ {
		if m.is(i, "!") {
			t.Wraps += "!"
			i++
		}
		if lists == 0 {
			return t, i, api.Fault{}
		}
		if !m.is(i, "]") {
			_, f := m.wrong(i, api.ErrForm)
			return api.Type{}, i, f
		}
		t.Wraps += "["
		lists--
	}
}

// isLiteral tells whether v is the literal of these tokens, and right, however many levels it has.
func isLiteral(v api.Value, l []token.Token) bool {
	return slices.Equal(tokensOf(v), placeless(l)) && rightly(cut(v))
}

// cut answers a literal in which just MaxDeep levels are left.
func cut(v api.Value) api.Value {
	var down func(v api.Value, level int) api.Value
	down = func(v api.Value, level int) api.Value {
		if level == api.MaxDeep {
			v.L, v.F = v.L[:0:0], v.F[:0:0]
		}
		v.L, v.F = slices.Clone(v.L), slices.Clone(v.F)
		for i := range v.L {
			v.L[i] = down(v.L[i], level+1)
		}
		for i := range v.F {
			v.F[i].V = down(v.F[i].V, level+1)
		}
		return v
	}
	return down(v, 1)
}

// allRows calls what it is handed with each row of up to n of these pieces.
func allRows(n int, pieces []string, each func(s string)) {
	each("")
	rows := []string{""}
	for range n {
		var longer []string
		for _, s := range rows {
			for _, p := range pieces {
				each(s + p)
				longer = append(longer, s+p)
			}
		}
		rows = longer
	}
}

// some answers one of l by chance.
func some[T any](r *rand.Rand, l ...T) T {
	return l[r.Intn(len(l))]
}

// chance answers a right literal of at most that many levels.
func chance(r *rand.Rand, deep int) api.Value {
	kind := r.Intn(8)
	if deep == 1 && (kind == api.List || kind == api.Object) && r.Intn(2) == 0 {
		kind = api.Enum
	}
	v := api.Value{Kind: kind}
	switch kind {
	case api.Bool:
		v.N = int64(r.Intn(2))
	case api.Int:
		v.N = some(r, 0, 1, -1, 10, -70, 1<<31, 9007199254740991, -9007199254740991, r.Int63n(1000))
	case api.String:
		v.S = some(r, "", "a", "null", "$a", `"`, `\`, `"""`, `\"`, "\x00\n\t", "\u20ac\U0001f600", "a, b: c", "#", "[]", "{}")
	case api.Enum:
		v.S = some(r, "a", "RED", "_9", "nul", "NULL", "trues", "on", "query", "False")
	case api.Ref:
		v.S = some(r, "a", "null", "true", "false", "_", "v1")
	case api.List:
		for range r.Intn(4) * min(1, deep-1) {
			v.L = append(v.L, chance(r, deep-1))
		}
	case api.Object:
		for i := range r.Intn(4) * min(1, deep-1) {
			v.F = append(v.F, api.Pair{Key: some(r, "a", "null", "true", "_", "Z9") + strconv.Itoa(i), V: chance(r, deep-1)})
		}
	}
	return v
}

// same tells whether two literals are one.
func same(a, b api.Value) bool {
	if a.Kind != b.Kind || a.N != b.N || a.S != b.S {
		return false
	}
	return slices.EqualFunc(a.L, b.L, same) && slices.EqualFunc(a.F, b.F, func(p, q api.Pair) bool {
		return p.Key == q.Key && same(p.V, q.V)
	})
}

// zero tells whether v is a zero value.
func zero(v api.Value) bool {
	return v.Kind == 0 && v.N == 0 && v.S == "" && len(v.L) == 0 && len(v.F) == 0
}

// shared tells whether two strings have bytes in common memory.
func shared(a, b string) bool {
	if a == "" || b == "" {
		return false
	}
	from, to := uintptr(unsafe.Pointer(unsafe.StringData(a))), uintptr(unsafe.Pointer(unsafe.StringData(b)))
	return from < to+uintptr(len(b)) && to < from+uintptr(len(a))
}

// texts answers all strings in a literal.
func texts(v api.Value) []string {
	l := []string{v.S}
	for _, x := range v.L {
		l = append(l, texts(x)...)
	}
	for _, p := range v.F {
		l = append(append(l, p.Key), texts(p.V)...)
	}
	return l
}

// checkValue holds a reader's Value at the beginning of s, and ParseValue of s, against
// the second reading; it tells whether a literal began there.
func checkValue(t *testing.T, s string, deep int, constant bool) bool {
	t.Helper()
	m := newModel(s)
	n, f := 0, m.f
	if f.E == api.OK {
		n, f = m.value(deep, constant)
	}
	r := lit.NewReader(s)
	v := r.Value(deep, constant)
	if f.E != api.OK {
		if !zero(v) || r.Fault() != f || r.At() != f.At || !r.End() {
			t.Fatalf("Value(%d, %v) of %q = %v, %v, at %d, want %v", deep, constant, s, v, r.Fault(), r.At(), f)
		}
	} else if !isLiteral(v, m.l[:n]) || r.Fault() != f || r.At() != m.at(n) || r.End() != (n == len(m.l)) {
		t.Fatalf("Value(%d, %v) of %q = %v, %v, at %d, want it of %v", deep, constant, s, v, r.Fault(), r.At(), m.l[:n])
	}
	if deep == api.MaxDeep {
		checkParseValue(t, s, constant, m, n, f)
	}
	return f.E == api.OK
}

func checkParseValue(t *testing.T, s string, constant bool, m *model, n int, f api.Fault) {
	t.Helper()
	if f.E == api.OK && n < len(m.l) {
		_, f = m.wrong(n, api.ErrForm)
	}
	v, got := lit.ParseValue(s, constant)
	if got != f || f.E != api.OK && !zero(v) || f.E == api.OK && !isLiteral(v, m.l) {
		t.Fatalf("ParseValue(%q, %v) = %v, %v, want %v", s, constant, v, got, f)
	}
	if f.E == api.OK {
		checkShow(t, v, constant)
	}
}

// checkShow holds what is written of a right literal against the second reading, and reads it again.
func checkShow(t *testing.T, v api.Value, constant bool) {
	t.Helper()
	s, e := lit.ShowValue(v)
	if want := written(v); s != want || e != api.OK {
		t.Fatalf("ShowValue(%v) = %q, %v, want %q", v, s, e, want)
	}
	if len(s) > api.MaxBytes || len(tokensOf(v)) > api.MaxTokens {
		return
	}
	if again, f := lit.ParseValue(s, constant); f != (api.Fault{}) || !same(again, v) {
		t.Fatalf("ParseValue(%q, %v) = %v, %v, want %v", s, constant, again, f, v)
	}
}

// checkType is checkValue for types.
func checkType(t *testing.T, s string) bool {
	t.Helper()
	m := newModel(s)
	var want api.Type
	n, f := 0, m.f
	if f.E == api.OK {
		want, n, f = m.typ()
	}
	r := lit.NewReader(s)
	x := r.Type()
	if x != want || r.Fault() != f || f.E != api.OK && (r.At() != f.At || !r.End()) || f.E == api.OK && (r.At() != m.at(n) || r.End() != (n == len(m.l))) {
		t.Fatalf("Type of %q = %v, %v, at %d, want %v, %v", s, x, r.Fault(), r.At(), want, f)
	}
	if f.E == api.OK && n < len(m.l) {
		want = api.Type{}
		_, f = m.wrong(n, api.ErrForm)
	}
	x, got := lit.ParseType(s)
	if x != want || got != f {
		t.Fatalf("ParseType(%q) = %v, %v, want %v, %v", s, x, got, want, f)
	}
	if f.E != api.OK {
		return false
	}
	if shown, e := lit.ShowType(x); e != api.OK || !slices.Equal(placeless(newModel(shown).l), placeless(newModel(s).l)) {
		t.Fatalf("ShowType(%v) = %q, %v, of %q", x, shown, e, s)
	}
	return true
}
