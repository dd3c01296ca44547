// Package signal describes signals, and letters as numbers.
package signal

import (
	"iter"

	"foresight/api"
)

// selection tells which signals a number is built from.
type selection func(s api.Signal) bool

// Valid reports whether signals are well-formed.
func Valid(l []api.Signal) bool {
	if len(l) < 1 || len(l) > api.MaxSignals {
		return false
	}
	letters := 1
	for i, s := range l {
		if !Name(s.Name) || Find(l, s.Name) != i {
			return false
		}
		if s.Size < 2 || s.Size > api.MaxValues {
			return false
		}
		letters *= s.Size
	}
	return letters <= api.MaxLetters
}

// Name reports whether a string is a name.
func Name(s string) bool {
	if len(s) < 1 || len(s) > api.MaxName {
		return false
	}
	ok := !keyWord(s)
scan:
	for i := range len(s) {
		switch c := s[i]; {
		case c >= 'a' && c <= 'z':
		case i > 0 && (c >= '0' && c <= '9' || c == '_'):
		default:
			ok = false
			break scan
		}
	}
	return ok
}

// keyWord reports whether a string is a word that specifications and edits use themselves.
func keyWord(s string) bool {
	switch s {
	case "input", "output", "part", "assume", "guarantee", "true", "false", "add", "drop", "replace":
		return true
	}
	return false
}

// Letters returns the number of letters.
func Letters(l []api.Signal) int { return count(l, whole()) }

// Inputs returns the number of inputs.
func Inputs(l []api.Signal) int { return count(l, half(true)) }

// Outputs returns the number of outputs.
func Outputs(l []api.Signal) int { return count(l, half(false)) }

// Find returns the index of the signal with a name, or -1.
func Find(l []api.Signal, name string) int {
	for i, s := range l {
		if s.Name == name {
			return i
		}
	}
	return -1
}

// Value returns the value of a signal in a letter.
func Value(l []api.Signal, letter, i int) int {
	if !below(letter, Letters(l)) || !below(i, len(l)) {
		return 0
	}
	return values(l, letter)[i]
}

// Make returns the letter with some values, and whether there is one.
func Make(l []api.Signal, vals []int) (int, bool) {
	if !Valid(l) || len(vals) != len(l) {
		return 0, false
	}
	for i, v := range vals {
		if !below(v, l[i].Size) {
			return 0, false
		}
	}
	return compose(l, whole(), vals), true
}

// In returns the input of a letter.
func In(l []api.Signal, letter int) int { return project(l, half(true), letter) }

// Out returns the output of a letter.
func Out(l []api.Signal, letter int) int { return project(l, half(false), letter) }

// Join returns the letter with an input and an output.
func Join(l []api.Signal, in, out int) int {
	if !below(in, Inputs(l)) || !below(out, Outputs(l)) {
		return 0
	}
	vals := make([]int, len(l))
	decompose(l, half(true), in, vals)
	decompose(l, half(false), out, vals)
	return compose(l, whole(), vals)
}

// below reports whether n is one of the numbers from 0 to limit - 1.
func below(n, limit int) bool { return n >= 0 && n < limit }

// whole selects all signals.
func whole() selection {
	return func(api.Signal) bool { return true }
}

// half selects the input signals, or the others.
func half(input bool) selection {
	return func(s api.Signal) bool { return s.Input == input }
}

// weights yields the indices of the selected signals, each with the weight of its value in the number built from them.
func weights(l []api.Signal, selected selection) iter.Seq2[int, int] {
	return func(yield func(int, int) bool) {
		weight := 1
		for i, s := range l {
			if !selected(s) {
				continue
			}
			if !yield(i, weight) {
				return
			}
			weight *= s.Size
		}
	}
}

// count returns how many numbers are built from the selected signals, 0 if the signals are not well-formed.
func count(l []api.Signal, selected selection) int {
	if !Valid(l) {
		return 0
	}
	n := 1
	for i := range weights(l, selected) {
		n *= l[i].Size
	}
	return n
}

// compose returns the number that is built from the values of the selected signals.
func compose(l []api.Signal, selected selection, vals []int) int {
	n := 0
	for i, weight := range weights(l, selected) {
		n += vals[i] * weight
	}
	return n
}

// decompose writes the values of the selected signals, of which a number is built, into vals.
func decompose(l []api.Signal, selected selection, n int, vals []int) {
	for i, weight := range weights(l, selected) {
		vals[i] = n / weight % l[i].Size
	}
}

// values returns the values of all signals in a letter that there is.
func values(l []api.Signal, letter int) []int {
	vals := make([]int, len(l))
	decompose(l, whole(), letter, vals)
	return vals
}

// project returns the number that is built from the selected signals' values in a letter, 0 if there is no such letter.
func project(l []api.Signal, selected selection, letter int) int {
	if !below(letter, Letters(l)) {
		return 0
	}
	return compose(l, selected, values(l, letter))
}
