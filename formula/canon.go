package formula

import (
	"slices"

	"foresight/api"
)

// And returns the canonical conjunction of loose kernels.
func And(l []api.Formula) api.Formula { return combine(api.OpAnd, l) }

// Or returns the canonical disjunction of loose kernels.
func Or(l []api.Formula) api.Formula { return combine(api.OpOr, l) }

// Canon returns the canonical form of a loose kernel.
func Canon(f api.Formula) api.Formula {
	if !loose(f) {
		return api.Formula{}
	}
	return canon(f)
}

// combine returns the canonical form of OpAnd or OpOr of formulas, the zero formula if one of them or the result is not a loose kernel.
func combine(op int, l []api.Formula) api.Formula {
	for _, f := range l {
		if !loose(f) {
			return api.Formula{}
		}
	}
	f := join(op, canons(l))
	if !loose(f) {
		return api.Formula{}
	}
	return f
}

// canons returns the canonical forms of loose kernels.
func canons(l []api.Formula) []api.Formula {
	var c []api.Formula
	for _, f := range l {
		c = append(c, canon(f))
	}
	return c
}

// canon returns the canonical form of a loose kernel.
func canon(f api.Formula) api.Formula {
	f.Args = canons(f.Args)
	switch f.Op {
	case api.OpAnd, api.OpOr:
		return join(f.Op, f.Args)
	case api.OpNext:
		if constant(f.Args[0]) {
			return f.Args[0]
		}
	case api.OpUntil:
		if constant(f.Args[1]) || f.Args[0].Op == api.OpFalse {
			return f.Args[1]
		}
	case api.OpRelease:
		if constant(f.Args[1]) || f.Args[0].Op == api.OpTrue {
			return f.Args[1]
		}
	}
	return f
}

// constant reports whether a formula is true or false.
func constant(f api.Formula) bool { return f.Op == api.OpTrue || f.Op == api.OpFalse }

// join returns the canonical form of OpAnd or OpOr of canonical formulas.
func join(op int, args []api.Formula) api.Formula {
	unit, zero := api.Formula{Op: api.OpTrue}, api.Formula{Op: api.OpFalse}
	if op == api.OpOr {
		unit, zero = zero, unit
	}
	l := settle(flat(op, args), unit, zero, negated, Compare)
	switch len(l) {
	case 0:
		return unit
	case 1:
		return l[0]
	}
	return api.Formula{Op: op, Args: l}
}

// flat returns a new list of formulas, in which those with an operator are replaced by their arguments.
func flat(op int, args []api.Formula) []api.Formula {
	var l []api.Formula
	for _, f := range args {
		if f.Op == op {
			l = append(l, f.Args...)
		} else {
			l = append(l, f)
		}
	}
	return l
}

// negated returns the formula of which a literal is the negation, and whether it is one.
func negated(f api.Formula) (api.Formula, bool) {
	if f.Op != api.OpNot {
		return api.Formula{}, false
	}
	return f.Args[0], true
}

// settle sorts a list and leaves out units and repetitions. If zero is among its elements, or one of them together with what it negates, zero is all that is left. It uses the memory of the list.
func settle[T any](l []T, unit, zero T, negated func(T) (T, bool), compare func(a, b T) int) []T {
	same := func(a, b T) bool { return compare(a, b) == 0 }
	slices.SortFunc(l, compare)
	l = slices.CompactFunc(l, same)
	has := func(x T) bool {
		_, found := slices.BinarySearchFunc(l, x, compare)
		return found
	}
	for _, x := range l {
		if y, ok := negated(x); same(x, zero) || ok && has(y) {
			return []T{zero}
		}
	}
	return slices.DeleteFunc(l, func(x T) bool { return same(x, unit) })
}
