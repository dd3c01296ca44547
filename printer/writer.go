package printer

import (
	"strconv"
	"strings"

	"foresight/api"
	"foresight/signal"
)

// maxNumber is the greatest number of a text.
const maxNumber = 9999

// unprintable is what a writer panics with.
type unprintable struct{}

// writer writes texts.
type writer struct {
	strings.Builder
	operators map[int]operator
}

// put writes texts one after the other.
func (w *writer) put(parts ...string) {
	for _, p := range parts {
		w.WriteString(p)
	}
}

// formula writes a formula. It gets a pointer, since copies at all levels of a deep formula would need much of the stack.
func (w *writer) formula(f *api.Formula) {
	o, ok := w.operators[f.Op]
	require(ok && o.least <= len(f.Args) && len(f.Args) <= o.most)
	sign := o.sign(f)
	if len(f.Args) < 2 {
		w.put(sign)
	}
	level := o.first
	for i := range f.Args {
		if i > 0 {
			w.put(sign)
			level = o.later
		}
		w.argument(&f.Args[i], level)
	}
}

// argument writes a formula, in parentheses if it has a lower level.
func (w *writer) argument(f *api.Formula, level int) {
	if w.operators[f.Op].level >= level {
		w.formula(f)
		return
	}
	w.put("(")
	w.formula(f)
	w.put(")")
}

// require panics unless a condition for printable items holds.
func require(ok bool) {
	if !ok {
		panic(unprintable{})
	}
}

// name returns the text of a name.
func name(s string) string {
	require(signal.Name(s))
	return s
}

// number returns the text of a number.
func number(n int) string {
	require(n >= 0 && n <= maxNumber)
	return strconv.Itoa(n)
}

// word returns the word of a kind.
func word(words map[int]string, kind int) string {
	text, ok := words[kind]
	require(ok)
	return text
}
