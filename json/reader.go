package json

import (
	"strconv"
	"strings"

	"cascade/api"
	"cascade/quote"
)

// reader reads s from the left. It holds the place to which it has come, and its
// first error with the place of that: what its methods answer behind an error means nothing.
type reader struct {
	s   string
	at  int
	e   api.Errno
	bad int
}

// fail keeps the first error: those that come of it aren't told.
func (r *reader) fail(at int, e api.Errno) {
	if r.e == api.OK {
		r.e, r.bad = e, at
	}
}

// blanks goes on to what is no blank.
func (r *reader) blanks() {
	for r.at < len(r.s) && strings.IndexByte(" \t\n\r", r.s[r.at]) >= 0 {
		r.at++
	}
}

// takes tells whether word stands right here, and goes behind it.
func (r *reader) takes(word string) bool {
	if !strings.HasPrefix(r.s[r.at:], word) {
		return false
	}
	r.at += len(word)
	return true
}

// sign tells whether that sign comes next, and goes behind it.
func (r *reader) sign(sign string) bool {
	r.blanks()
	return r.takes(sign)
}

// must is sign for one that may not be left out.
func (r *reader) must(sign string) {
	if !r.sign(sign) {
		r.fail(r.at, api.ErrForm)
	}
}

// end asks that nothing more comes.
func (r *reader) end() {
	r.blanks()
	if r.at < len(r.s) {
		r.fail(r.at, api.ErrForm)
	}
}

// value reads a value that stands at that level.
func (r *reader) value(level int) api.Value {
	r.blanks()
	rest := r.s[r.at:]
	if rest == "" {
		r.fail(r.at, api.ErrForm)
		return api.Value{}
	}
	if level > api.MaxDeep {
		r.fail(r.at, api.ErrDeep)
		return api.Value{}
	}
	switch c := rest[0]; {
	case c == '"':
		return api.Value{Kind: api.String, S: r.quoted()}
	case c == '-' || digit(c):
		return api.Value{Kind: api.Int, N: r.number()}
	case c == '[':
		return api.Value{Kind: api.List, L: r.list(level)}
	case c == '{':
		return api.Value{Kind: api.Object, F: r.object(level)}
	}
	return r.word()
}

// word reads one of the values that are told by a word.
func (r *reader) word() api.Value {
	switch {
	case r.takes("true"):
		return api.Value{Kind: api.Bool, N: 1}
	case r.takes("false"):
		return api.Value{Kind: api.Bool}
	case !r.takes("null"):
		r.fail(r.at, api.ErrForm)
	}
	return api.Value{}
}

// quoted reads a quoted text.
func (r *reader) quoted() string {
	s, n, e := quote.Unquote(r.s[r.at:])
	if e != api.OK {
		r.fail(r.at+n, e)
		return ""
	}
	r.at += n
	return s
}

// number reads a number, of which the sign or the first digit stands right here.
func (r *reader) number() int64 {
	from := r.at
	below := r.takes("-")
	first := r.at
	for r.at < len(r.s) && digit(r.s[r.at]) {
		r.at++
	}
	digits := r.s[first:r.at]
	if digits == "" || below && digits == "0" {
		r.fail(from, api.ErrForm)
		return 0
	}
	if digits[0] == '0' && len(digits) > 1 {
		r.fail(first+1, api.ErrForm)
		return 0
	}
	// Of a sign and digits the library tells one error alone: more than an int64 holds.
	n, err := strconv.ParseInt(r.s[from:r.at], 10, 64)
	if err != nil || n < -api.MaxNumber || n > api.MaxNumber {
		r.fail(from, api.ErrLong)
		return 0
	}
	return n
}

func digit(c byte) bool {
	return '0' <= c && c <= '9'
}

// list reads a list that stands at that level.
func (r *reader) list(level int) []api.Value {
	var l []api.Value
	r.members("[", "]", func() {
		l = append(l, r.value(level+1))
	})
	return l
}

// object reads an object that stands at that level.
func (r *reader) object(level int) []api.Pair {
	var pairs []api.Pair
	// Objects may be long: a map finds a key that comes again without a walk over all of them.
	places := make(map[string]int)
	r.members("{", "}", func() {
		key := r.key(places)
		r.must(":")
		if r.e == api.OK {
			pairs = append(pairs, api.Pair{Key: key, V: r.value(level + 1)})
		}
	})
	return pairs
}

// key reads a key, and keeps where it stands beside those that its object has already.
func (r *reader) key(places map[string]int) string {
	r.blanks()
	from := r.at
	key := r.quoted()
	if _, met := places[key]; met {
		r.fail(from, api.ErrTwice)
	}
	places[key] = from
	return key
}

// members reads what stands between two signs, with commas between; one reads one of it.
func (r *reader) members(begin, end string, one func()) {
	r.must(begin)
	if r.sign(end) {
		return
	}
	one()
	for r.e == api.OK && r.sign(",") {
		one()
	}
	r.must(end)
}
