package lit

import (
	"slices"
	"strconv"

	"cascade/api"
	"cascade/token"
)

// The kinds of tokens, by layer 8's numbers.
const (
	signKind   = 1
	nameKind   = 2
	numberKind = 3
	stringKind = 4
)

// Reader stands at a token of a text, or at the end. It holds what it has not
// gone past yet, and its first fault: behind that it tells nothing any more.
type Reader struct {
	left   []token.Token
	length int
	fault  api.Fault
}

// NewReader answers a reader of s, which has failed already, if s has no tokens.
func NewReader(s string) *Reader {
	l, f := token.Lex(s)
	return &Reader{left: l, length: len(s), fault: f}
}

// Fault answers how the reader failed; zero, if it hasn't.
func (r *Reader) Fault() api.Fault {
	return r.fault
}

// failed tells whether the reader has failed.
func (r *Reader) failed() bool {
	return r.fault.E != api.OK
}

// Fail makes the reader fail, if it hasn't yet, and if e is an error.
func (r *Reader) Fail(at int, e api.Errno) {
	if !r.failed() && e != api.OK {
		r.fault = api.Fault{E: e, At: at}
	}
}

// At answers the place where the reader stands, or where it failed.
func (r *Reader) At() int {
	switch {
	case r.failed():
		return r.fault.At
	case len(r.left) == 0:
		return r.length
	}
	return r.left[0].At
}

// End tells whether the reader stands at the end, or has failed.
func (r *Reader) End() bool {
	return r.failed() || len(r.left) == 0
}

// kind answers what kind of token the reader stands at: none of them at the end.
func (r *Reader) kind() int {
	if r.End() {
		return 0
	}
	return r.left[0].Kind
}

// next goes on by the token at which the reader stands, and answers what it tells.
func (r *Reader) next() string {
	s := r.left[0].S
	r.left = r.left[1:]
	return s
}

// refuse fails, as what stands here can't, and answers no value.
func (r *Reader) refuse(e api.Errno) api.Value {
	r.Fail(r.At(), e)
	return api.Value{}
}

// Is tells whether the reader stands at a sign, or a name, that is s.
func (r *Reader) Is(s string) bool {
	switch r.kind() {
	case signKind, nameKind:
		return r.left[0].S == s
	}
	return false
}

// Take is Is, and goes on, if so.
func (r *Reader) Take(s string) bool {
	if !r.Is(s) {
		return false
	}
	r.next()
	return true
}

// Must is Take of what may not be missing.
func (r *Reader) Must(s string) {
	if !r.Take(s) {
		r.refuse(api.ErrForm)
	}
}

// Name answers the name at which the reader stands, and goes on; or fails.
func (r *Reader) Name() string {
	if r.kind() != nameKind {
		r.refuse(api.ErrForm)
		return ""
	}
	return r.next()
}

// Value answers the literal that begins here, of at most that many levels, and
// goes on behind it; or fails.
func (r *Reader) Value(deep int, constant bool) api.Value {
	v := r.begun(deep, constant)
	if r.failed() {
		return api.Value{}
	}
	return v
}

// begun is Value, but that it answers what it has, if it fails on the way.
func (r *Reader) begun(deep int, constant bool) api.Value {
	switch {
	case r.End():
		return r.refuse(api.ErrForm)
	case deep <= 0:
		return r.refuse(api.ErrDeep)
	case r.Take("["):
		return api.Value{Kind: api.List, L: r.list(deep-1, constant)}
	case r.Take("{"):
		return api.Value{Kind: api.Object, F: r.object(deep-1, constant)}
	case !constant && r.Take("$"):
		return api.Value{Kind: api.Ref, S: r.Name()}
	}
	switch r.kind() {
	case nameKind:
		return named(r.next())
	case numberKind:
		// Layer 8 takes no number that int64 doesn't hold.
		n, _ := strconv.ParseInt(r.next(), 10, 64)
		return api.Value{Kind: api.Int, N: n}
	case stringKind:
		return api.Value{Kind: api.String, S: r.next()}
	}
	return r.refuse(api.ErrForm)
}

// list reads what stands behind a [, of that many levels.
func (r *Reader) list(deep int, constant bool) []api.Value {
	var l []api.Value
	for !r.failed() && !r.Take("]") {
		l = append(l, r.Value(deep, constant))
	}
	return l
}

// object reads what stands behind a {, with values of that many levels.
func (r *Reader) object(deep int, constant bool) []api.Pair {
	var pairs []api.Pair
	for !r.failed() && !r.Take("}") {
		key := r.key(pairs)
		r.Must(":")
		pairs = append(pairs, api.Pair{Key: key, V: r.Value(deep, constant)})
	}
	return pairs
}

// key reads a key of an object that has these pairs already.
func (r *Reader) key(pairs []api.Pair) string {
	at := r.At()
	key := r.Name()
	if slices.ContainsFunc(pairs, func(p api.Pair) bool { return p.Key == key }) {
		r.Fail(at, api.ErrTwice)
	}
	return key
}

// Type answers the type that begins here, and goes on behind it; or fails.
func (r *Reader) Type() api.Type {
	t := r.wrapped(maxLists)
	if r.failed() {
		return api.Type{}
	}
	return t
}

// wrapped is Type with at most that many signs [, but that it answers what it
// has, if it fails on the way.
func (r *Reader) wrapped(lists int) api.Type {
	var t api.Type
	switch {
	case !r.Is("["):
		t.Name = r.Name()
	case lists == 0:
		r.refuse(api.ErrDeep)
	default:
		r.Must("[")
		t = r.wrapped(lists - 1)
		r.Must("]")
		t.Wraps += "["
	}
	if r.Take("!") {
		t.Wraps += "!"
	}
	return t
}

// ended asks that nothing more comes, and answers how the reader failed, if it has.
func (r *Reader) ended() api.Fault {
	if !r.End() {
		r.refuse(api.ErrForm)
	}
	return r.fault
}
