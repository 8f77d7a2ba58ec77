package json_test

import (
	"regexp"
	"strings"

	"cascade/api"
	"cascade/quote"
)

// The tests' own reader: it cuts the text by expressions, and goes by what may come next, on a
// stack of what is open, without calling itself. Of what is right it answers the text without blanks.

// What may come next.
const (
	wantValue = iota
	wantFirst // a value, or a list's end
	wantKey
	wantKeyOrEnd
	wantColon
	wantMore // a comma, or the end of what is open
)

var (
	blank   = regexp.MustCompile(`^[ \t\n\r]+`)
	literal = regexp.MustCompile(`^(null|true|false)`)
	figure  = regexp.MustCompile(`^-?[0-9]*`)
	fit     = regexp.MustCompile(`^(0|-?[1-9][0-9]*)$`)
	nought  = regexp.MustCompile(`^-?0[0-9]`)
)

type open struct {
	end  byte
	keys []string
}

type machine struct {
	rest, out string
	at        int
	stack     []open
	want      int
}

func expected(s string) reading {
	m := &machine{rest: s, want: wantValue}
	for {
		m.skip(len(blank.FindString(m.rest)), "")
		if m.want == wantMore && len(m.stack) == 0 {
			if m.rest != "" {
				return reading{"", m.at, api.ErrForm}
			}
			return reading{m.out, -1, api.OK}
		}
		if m.rest == "" {
			return reading{"", m.at, api.ErrForm}
		}
		if off, e := m.step(); e != api.OK {
			return reading{"", m.at + off, e}
		}
	}
}

func (m *machine) skip(n int, as string) {
	m.at, m.rest, m.out = m.at+n, m.rest[n:], m.out+as
}

// step takes what comes next, or tells how far from here an error is.
func (m *machine) step() (int, api.Errno) {
	c := m.rest[0]
	closes := len(m.stack) > 0 && c == m.stack[len(m.stack)-1].end
	switch {
	case closes && (m.want == wantFirst || m.want == wantKeyOrEnd || m.want == wantMore):
		m.stack = m.stack[:len(m.stack)-1]
		m.want = wantMore
		m.skip(1, string(c))
		return 0, api.OK
	case m.want == wantValue || m.want == wantFirst:
		if len(m.stack) >= api.MaxDeep {
			return 0, api.ErrDeep
		}
		return m.value(c)
	case m.want == wantKey || m.want == wantKeyOrEnd:
		return m.key()
	case m.want == wantColon && c == ':':
		m.want = wantValue
	case m.want == wantMore && c == ',' && m.stack[len(m.stack)-1].end == '}':
		m.want = wantKey
	case m.want == wantMore && c == ',':
		m.want = wantValue
	default:
		return 0, api.ErrForm
	}
	m.skip(1, string(c))
	return 0, api.OK
}

func (m *machine) value(c byte) (int, api.Errno) {
	if c == '[' || c == '{' {
		// The ends stand two behind the beginnings.
		m.stack = append(m.stack, open{end: c + 2})
		m.want = map[byte]int{'[': wantFirst, '{': wantKeyOrEnd}[c]
		m.skip(1, string(c))
		return 0, api.OK
	}
	m.want = wantMore
	if c == '"' {
		s, n, e := quote.Unquote(m.rest)
		if e == api.OK {
			m.skip(n, quoted(s))
			return 0, api.OK
		}
		return n, e
	}
	if word := literal.FindString(m.rest); word != "" {
		m.skip(len(word), word)
		return 0, api.OK
	}
	return m.figure()
}

func (m *machine) figure() (int, api.Errno) {
	digits := figure.FindString(m.rest)
	if none := nought.FindString(digits); none != "" {
		return len(none) - 1, api.ErrForm
	}
	if !fit.MatchString(digits) {
		return 0, api.ErrForm
	}
	// As many digits are held against each other as texts.
	const most = "9007199254740991"
	if n := strings.TrimPrefix(digits, "-"); len(n) > len(most) || len(n) == len(most) && n > most {
		return 0, api.ErrLong
	}
	m.skip(len(digits), digits)
	return 0, api.OK
}

func (m *machine) key() (int, api.Errno) {
	s, n, e := quote.Unquote(m.rest)
	if e != api.OK {
		return n, e
	}
	o := &m.stack[len(m.stack)-1]
	for _, k := range o.keys {
		if k == s {
			return 0, api.ErrTwice
		}
	}
	o.keys = append(o.keys, s)
	m.want = wantColon
	m.skip(n, quoted(s))
	return 0, api.OK
}
