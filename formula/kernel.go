package formula

import "foresight/api"

// maker makes positive and negative forms of formulas.
type maker struct {
	left int // how many nodes may still be made
}

// Kernel returns the kernel of a formula.
func Kernel(f api.Formula) (api.Formula, api.Errno) {
	if !Valid(f) || !Layered(f) {
		return api.Formula{}, api.ErrForm
	}
	m := maker{left: api.MaxSize}
	k, ok := m.form(f, false, api.MaxDepth)
	if !ok {
		return api.Formula{}, api.ErrLimit
	}
	return k, api.OK
}

// Not returns the negative form of a loose kernel.
func Not(f api.Formula) api.Formula {
	if !loose(f) {
		return api.Formula{}
	}
	m := maker{left: looseSize}
	g, _ := m.form(f, true, looseDepth)
	return g
}

// form returns the positive or the negative form of a formula, and whether it is within the limits.
func (m *maker) form(f api.Formula, negative bool, depth int) (api.Formula, bool) {
	f, negative = unfold(f, negative)
	if !negative {
		return m.assemble(f, f.Args, false, depth)
	}
	if f.Op == api.OpIs {
		return m.assemble(api.Formula{Op: api.OpNot}, []api.Formula{f}, false, depth)
	}
	return m.assemble(opposite(f), f.Args, true, depth)
}

// assemble returns a formula that has the forms of args as its arguments. It gives up at the first node that is too deep or one too many, since nested bounds would make very many.
func (m *maker) assemble(f api.Formula, args []api.Formula, negative bool, depth int) (api.Formula, bool) {
	if m.left == 0 || depth == 0 {
		return api.Formula{}, false
	}
	m.left--
	f.Args = nil
	for _, arg := range args {
		g, ok := m.form(arg, negative, depth-1)
		if !ok {
			return api.Formula{}, false
		}
		f.Args = append(f.Args, g)
	}
	return f, true
}

// opposite returns the negation of a formula with an operator of kernels, without its arguments.
func opposite(f api.Formula) api.Formula {
	g := api.Formula{Op: forms[f.Op].dual}
	if forms[f.Op].tense == past {
		g.Val = 1 - f.Val
	}
	return g
}

// unfold returns a formula with an operator of kernels other than OpNot, and whether it has to be negated to say the same. Its arguments are not unfolded.
func unfold(f api.Formula, negative bool) (api.Formula, bool) {
	for f.Op == api.OpNot || forms[f.Op].dual == 0 {
		if f.Op == api.OpNot {
			f, negative = f.Args[0], !negative
		} else {
			f = meaning(f)
		}
	}
	return f, negative
}

// meaning says with other operators what a formula says whose operator kernels do not have.
func meaning(f api.Formula) api.Formula {
	switch f.Op {
	case api.OpImp:
		return compound(api.OpOr, 0, compound(api.OpNot, 0, f.Args[0]), f.Args[1])
	case api.OpFinally:
		return compound(api.OpUntil, 0, compound(api.OpTrue, 0), f.Args[0])
	case api.OpGlobally:
		return compound(api.OpRelease, 0, compound(api.OpFalse, 0), f.Args[0])
	case api.OpOnce:
		return compound(api.OpSince, 0, compound(api.OpTrue, 0), f.Args[0])
	case api.OpHistorically:
		return compound(api.OpTrigger, 1, compound(api.OpFalse, 0), f.Args[0])
	case api.OpWithin:
		return firstTick(api.OpOr, f)
	default:
		return firstTick(api.OpAnd, f)
	}
}

// firstTick says what a formula with a bound says, so that its first tick is told apart from the others.
func firstTick(op int, f api.Formula) api.Formula {
	if f.Bound == 0 {
		return f.Args[0]
	}
	others := api.Formula{Op: f.Op, Bound: f.Bound - 1, Args: f.Args}
	return compound(op, 0, f.Args[0], compound(api.OpNext, 0, others))
}

// compound returns the formula with an operator, a Val and arguments.
func compound(op, val int, args ...api.Formula) api.Formula {
	return api.Formula{Op: op, Val: val, Args: args}
}
