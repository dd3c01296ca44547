package printer

import (
	"math"

	"foresight/api"
)

// many stands for any number of arguments.
const many = math.MaxInt

// signer returns the sign of a formula: what stands before its argument, between its arguments, or alone if it has none. It panics if a field of the formula, without what is in its arguments, is not right.
type signer func(f *api.Formula) string

// operator says what is written for the formulas with an operator.
type operator struct {
	level        int // of the text
	least, most  int // numbers of arguments
	first, later int // the least levels of the first argument, and of the others
	sign         signer
}

// operators returns the operators.
func operators() map[int]operator {
	return map[int]operator{
		api.OpTrue:         alone(plain("true")),
		api.OpFalse:        alone(plain("false")),
		api.OpIs:           alone(value),
		api.OpNot:          before(plain("!")),
		api.OpAnd:          chain(2, plain(" & ")),
		api.OpOr:           chain(1, plain(" | ")),
		api.OpImp:          between(0, plain(" -> ")),
		api.OpNext:         before(plain("X ")),
		api.OpUntil:        between(3, plain(" U ")),
		api.OpRelease:      between(3, plain(" R ")),
		api.OpFinally:      before(plain("F ")),
		api.OpGlobally:     before(plain("G ")),
		api.OpWithin:       before(bounded("F")),
		api.OpDuring:       before(bounded("G")),
		api.OpYesterday:    before(yesterday),
		api.OpSince:        between(3, valued(" S", 0)),
		api.OpTrigger:      between(3, valued(" T", 1)),
		api.OpOnce:         before(plain("O ")),
		api.OpHistorically: before(plain("H ")),
	}
}

// alone returns an operator without arguments.
func alone(sign signer) operator { return operator{level: 5, sign: sign} }

// before returns an operator that stands before its argument.
func before(sign signer) operator {
	return operator{level: 4, least: 1, most: 1, first: 4, sign: sign}
}

// between returns an operator that stands between two arguments, and is grouped from the right.
func between(level int, sign signer) operator {
	return operator{level: level, least: 2, most: 2, first: level + 1, later: level, sign: sign}
}

// chain returns an operator that stands between any number of arguments.
func chain(level int, sign signer) operator {
	return operator{level: level, least: 2, most: many, first: level + 1, later: level + 1, sign: sign}
}

// plain signs formulas that have arguments only.
func plain(text string) signer {
	return func(f *api.Formula) string {
		require(f.Name == "" && f.Val == 0 && f.Bound == 0)
		return text
	}
}

// bounded signs formulas with a Bound.
func bounded(text string) signer {
	return func(f *api.Formula) string {
		require(f.Name == "" && f.Val == 0)
		return text + "[" + number(f.Bound) + "] "
	}
}

// valued signs formulas with a Val, which is not written if it is the usual one.
func valued(text string, usual int) signer {
	return func(f *api.Formula) string {
		require(f.Name == "" && f.Bound == 0)
		if f.Val == usual {
			return text + " "
		}
		return text + "[" + number(f.Val) + "] "
	}
}

// yesterday signs formulas whose Val has a sign of its own.
func yesterday(f *api.Formula) string {
	require(f.Name == "" && f.Bound == 0)
	return word(map[int]string{0: "Y ", 1: "Z "}, f.Val)
}

// value signs formulas that say which value a signal has.
func value(f *api.Formula) string {
	require(f.Bound == 0)
	if f.Val == 1 {
		return name(f.Name)
	}
	return name(f.Name) + "=" + number(f.Val)
}
