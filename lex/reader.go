package lex

import (
	"strings"

	"grapnel/api"
	"grapnel/word"
)

// fault is what is panicked with, wherever a source can't be read on.
type fault struct {
	e  api.Errno
	at int
}

// reader goes through a source from the left.
type reader struct {
	s    string
	at   int // how many bytes are read
	from int // the place of the token or comment that is being read: a fault within it is told there
}

func (r *reader) giveUp(e api.Errno) { panic(fault{e, r.from}) }

func (r *reader) all() []api.Token {
	var tokens []api.Token
	for r.pass(); r.at < len(r.s); r.pass() {
		tokens = append(tokens, r.token())
	}
	return append(tokens, api.Token{Kind: api.TokEnd, At: r.at})
}

// pass goes over blanks and comments.
func (r *reader) pass() {
	for r.at < len(r.s) {
		switch {
		case isBlank(r.s[r.at]):
			r.at++
		case r.ahead(opening):
			r.comment()
		default:
			return
		}
	}
}

func (r *reader) ahead(s string) bool { return strings.HasPrefix(r.s[r.at:], s) }

// take goes over s, if it comes next.
func (r *reader) take(s string) bool {
	if !r.ahead(s) {
		return false
	}
	r.at += len(s)
	return true
}

// next takes a byte: without one, what is being read doesn't end.
func (r *reader) next() byte {
	if r.at == len(r.s) {
		r.giveUp(api.ErrToken)
	}
	r.at++
	return r.s[r.at-1]
}

// comment goes over one, and all within it.
func (r *reader) comment() {
	r.from = r.at
	r.take(opening)
	for open := 1; open > 0; {
		switch {
		case r.take(opening):
			open++
		case r.take(closing):
			open--
		default:
			r.next()
		}
	}
}

// token reads one, of which a byte is there.
func (r *reader) token() api.Token {
	r.from = r.at
	t := api.Token{At: r.at}
	switch c := r.s[r.at]; {
	case isSmall(c), isGreat(c):
		t.S = r.name()
		t.Kind = kindOf(t.S)
	case isDigit(c):
		t.Kind, t.N = api.TokInt, r.number()
	case c == quote:
		t.Kind, t.S = api.TokText, r.text()
	default:
		t.Kind, t.S = api.TokSign, r.sign()
	}
	return t
}

func (r *reader) name() string {
	for r.at < len(r.s) && isOfName(r.s[r.at]) {
		r.at++
	}
	return r.s[r.from:r.at]
}

// kindOf tells which kind of token a name is, by itself.
func kindOf(name string) int {
	switch {
	case isGreat(name[0]):
		return api.TokCon
	case IsWord(name), name == "_":
		return api.TokSign
	}
	return api.TokName
}

// number takes letters, too, so that 1a is no number and a name behind it.
func (r *reader) number() int64 {
	w, e := word.Parse(r.name())
	switch e {
	case api.OK:
	case api.ErrRange:
		r.giveUp(api.ErrRange)
	default:
		r.giveUp(api.ErrToken)
	}
	return word.Num(w)
}

func (r *reader) text() string {
	r.next() // the quote in front
	var all []byte
	for {
		c := r.next()
		switch c {
		case quote:
			return string(all)
		case escape:
			c = r.escaped()
		}
		all = append(all, c)
	}
}

// escaped reads what stands behind a \ within a text.
func (r *reader) escaped() byte {
	c := r.next()
	switch c {
	case quote, escape:
	case 'n':
		c = '\n'
	case 't':
		c = '\t'
	case 'x':
		high := r.hex()
		c = high<<4 | r.hex()
	default:
		r.giveUp(api.ErrToken)
	}
	return c
}

func (r *reader) hex() byte {
	n := strings.IndexByte(hexDigits, r.next())
	if n < 0 {
		r.giveUp(api.ErrToken)
	}
	return byte(n)
}

func (r *reader) sign() string {
	for n := min(longestSign, len(r.s)-r.at); n > 0; n-- {
		if s := r.s[r.at : r.at+n]; isSign(s) {
			r.at += n
			return s
		}
	}
	r.giveUp(api.ErrToken)
	return ""
}
