package truth

import (
	"foresight/api"
	"foresight/signal"
)

// rule returns the truth of a formula at all positions of a span, from the rows of its arguments.
type rule func(s span, f api.Formula, args [][]bool) []bool

// step says whether a formula is true at a position, from the rows of its arguments, and its truth at the position next to it, from which the step comes.
type step func(args [][]bool, t int, beside bool) bool

// rules returns the rules of all operators.
func rules() map[int]rule {
	return map[int]rule{
		api.OpTrue:         now(all),
		api.OpFalse:        now(one),
		api.OpIs:           value,
		api.OpNot:          now(func(args [][]bool, t int) bool { return !args[0][t] }),
		api.OpAnd:          now(all),
		api.OpOr:           now(one),
		api.OpImp:          now(func(args [][]bool, t int) bool { return !args[0][t] || args[1][t] }),
		api.OpNext:         next,
		api.OpUntil:        backward(false, lasting),
		api.OpRelease:      backward(true, ending),
		api.OpFinally:      backward(false, some),
		api.OpGlobally:     backward(true, every),
		api.OpWithin:       soon(true),
		api.OpDuring:       soon(false),
		api.OpYesterday:    yesterday,
		api.OpSince:        forward(remembered, lasting),
		api.OpTrigger:      forward(remembered, ending),
		api.OpOnce:         forward(func(api.Formula) bool { return false }, some),
		api.OpHistorically: forward(func(api.Formula) bool { return true }, every),
	}
}

// all reports whether all arguments are true at a position.
func all(args [][]bool, t int) bool {
	for _, row := range args {
		if !row[t] {
			return false
		}
	}
	return true
}

// one reports whether an argument is true at a position.
func one(args [][]bool, t int) bool {
	for _, row := range args {
		if row[t] {
			return true
		}
	}
	return false
}

// lasting is the step of until and since: the second argument has been reached, or the first one leads on.
func lasting(args [][]bool, t int, beside bool) bool { return args[1][t] || args[0][t] && beside }

// ending is the step of release and trigger: the second argument goes on, unless the first one ends this.
func ending(args [][]bool, t int, beside bool) bool { return args[1][t] && (args[0][t] || beside) }

// some is the step of finally and once.
func some(args [][]bool, t int, beside bool) bool { return args[0][t] || beside }

// every is the step of globally and historically.
func every(args [][]bool, t int, beside bool) bool { return args[0][t] && beside }

// remembered says what Val says to have been true before the first position.
func remembered(f api.Formula) bool { return f.Val == 1 }

// now returns the rule of formulas whose truth depends on that of the arguments at the same position.
func now(at func(args [][]bool, t int) bool) rule {
	return func(s span, _ api.Formula, args [][]bool) []bool {
		return s.row(func(t int) bool { return at(args, t) })
	}
}

// value is the rule of OpIs.
func value(s span, f api.Formula, _ [][]bool) []bool {
	i := signal.Find(s.signals, f.Name)
	right := make([]bool, signal.Letters(s.signals))
	for letter := range right {
		right[letter] = signal.Value(s.signals, letter, i) == f.Val
	}
	return s.row(func(t int) bool { return right[s.letters[t]] })
}

// next is the rule of OpNext.
func next(s span, _ api.Formula, args [][]bool) []bool {
	return s.row(func(t int) bool { return args[0][s.place(t+1)] })
}

// soon returns the rule of formulas for which their argument is looked at until it is as wanted, or the bound is reached.
func soon(want bool) rule {
	return func(s span, f api.Formula, args [][]bool) []bool {
		return s.row(func(t int) bool {
			for ahead := range f.Bound + 1 {
				if args[0][s.place(t+ahead)] == want {
					return want
				}
			}
			return !want
		})
	}
}

// backward returns the rule of formulas whose truth depends on that at the next position, and that are endless if they are never decided.
func backward(endless bool, at step) rule {
	return func(s span, _ api.Formula, args [][]bool) []bool {
		row := make([]bool, len(s.letters))
		beside := endless
		// What the first time says of the position back is right already, so that it can take the place of the unknown truth after the last position.
		for range 2 {
			for i := range len(row) {
				t := len(row) - 1 - i
				beside = at(args, t, beside)
				row[t] = beside
			}
			beside = row[s.back]
		}
		return row
	}
}

// yesterday is the rule of OpYesterday.
func yesterday(s span, f api.Formula, args [][]bool) []bool {
	return s.row(func(t int) bool {
		if t == 0 {
			return remembered(f)
		}
		return args[0][t-1]
	})
}

// forward returns the rule of formulas whose truth depends on that at the position before.
func forward(before func(f api.Formula) bool, at step) rule {
	return func(s span, f api.Formula, args [][]bool) []bool {
		beside := before(f)
		return s.row(func(t int) bool {
			beside = at(args, t, beside)
			return beside
		})
	}
}
