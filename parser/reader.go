package parser

import (
	"strconv"

	"foresight/api"
	"foresight/signal"
)

// failure is what a reader panics with.
type failure struct {
	err api.Errno
	at  int
}

// reader reads items from tokens.
type reader struct {
	tokens          []api.Token // those that have not been read
	length          int         // of the text
	before, between map[string]operator
}

// next returns the next token. At the end it is one without a kind and a text, which nothing accepts.
func (r *reader) next() api.Token {
	if len(r.tokens) == 0 {
		return api.Token{At: r.length}
	}
	return r.tokens[0]
}

// skip goes on behind the next token.
func (r *reader) skip() { r.tokens = r.tokens[1:] }

// refuse panics, since the next token is wrong, or missing.
func (r *reader) refuse() {
	err := api.ErrSyntax
	if len(r.tokens) == 0 {
		err = api.ErrEnd
	}
	panic(failure{err, r.next().At})
}

// finish refuses what follows an item.
func (r *reader) finish() {
	if len(r.tokens) > 0 {
		r.refuse()
	}
}

// sees reports whether the next token has a text.
func (r *reader) sees(text string) bool { return r.next().Text == text }

// takes reads the next token if it has a text, and reports whether it has.
func (r *reader) takes(text string) bool {
	if !r.sees(text) {
		return false
	}
	r.skip()
	return true
}

// need reads a token that has to have a text.
func (r *reader) need(text string) {
	if !r.takes(text) {
		r.refuse()
	}
}

// either reads a token that has to have one of two texts, and reports whether it is the first one.
func (r *reader) either(first, second string) bool {
	if r.takes(first) {
		return true
	}
	r.need(second)
	return false
}

// name reads a name.
func (r *reader) name() string {
	text := r.next().Text
	if !signal.Name(text) {
		r.refuse()
	}
	r.skip()
	return text
}

// number reads a number.
func (r *reader) number() int {
	t := r.next()
	if t.Kind != api.TokenNumber {
		r.refuse()
	}
	r.skip()
	n, _ := strconv.Atoi(t.Text) // the few digits of a token are always a number
	return n
}
