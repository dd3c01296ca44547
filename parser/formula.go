package parser

import "foresight/api"

// operator says which node is made where an operator stands.
type operator struct {
	op, val int
	bounded int  // the Op if there is an index, which is the Bound then; 0 if there is none
	valued  bool // there can be an index, which is the Val then
}

// before returns the operators that stand before a formula.
func before() map[string]operator {
	return map[string]operator{
		"!": {op: api.OpNot},
		"X": {op: api.OpNext},
		"Y": {op: api.OpYesterday},
		"Z": {op: api.OpYesterday, val: 1},
		"O": {op: api.OpOnce},
		"H": {op: api.OpHistorically},
		"F": {op: api.OpFinally, bounded: api.OpWithin},
		"G": {op: api.OpGlobally, bounded: api.OpDuring},
	}
}

// between returns the operators that stand between two formulas and bind most closely.
func between() map[string]operator {
	return map[string]operator{
		"U": {op: api.OpUntil},
		"R": {op: api.OpRelease},
		"S": {op: api.OpSince, valued: true},
		"T": {op: api.OpTrigger, val: 1, valued: true},
	}
}

// formula reads a formula.
func (r *reader) formula() api.Formula {
	f := r.or()
	if !r.takes("->") {
		return f
	}
	return api.Formula{Op: api.OpImp, Args: []api.Formula{f, r.formula()}}
}

// or reads terms between |.
func (r *reader) or() api.Formula { return r.chain(api.OpOr, "|", r.and) }

// and reads terms between &.
func (r *reader) and() api.Formula { return r.chain(api.OpAnd, "&", r.until) }

// chain reads one term, or the arguments of one node.
func (r *reader) chain(op int, separator string, term func() api.Formula) api.Formula {
	first := term()
	others := list(func() bool { return r.takes(separator) }, term)
	if len(others) == 0 {
		return first
	}
	return api.Formula{Op: op, Args: append([]api.Formula{first}, others...)}
}

// until reads formulas between U, R, S and T.
func (r *reader) until() api.Formula {
	first := r.unary()
	o, ok := r.operator(r.between)
	if !ok {
		return first
	}
	f := r.node(o)
	f.Args = []api.Formula{first, r.until()}
	return f
}

// unary reads a formula with the operators before it.
func (r *reader) unary() api.Formula {
	o, ok := r.operator(r.before)
	if !ok {
		return r.primary()
	}
	f := r.node(o)
	f.Args = []api.Formula{r.unary()}
	return f
}

// operator reads one of some operators, if there is one.
func (r *reader) operator(l map[string]operator) (operator, bool) {
	o, ok := l[r.next().Text]
	if ok {
		r.skip()
	}
	return o, ok
}

// node reads the index of an operator, if there can be and is one, and returns the node without arguments.
func (r *reader) node(o operator) api.Formula {
	f := api.Formula{Op: o.op, Val: o.val}
	switch {
	case o.bounded != 0 && r.takes("["):
		f.Op, f.Bound = o.bounded, r.index()
	case o.valued && r.takes("["):
		f.Val = r.index()
	}
	return f
}

// index reads what follows the bracket of an index.
func (r *reader) index() int {
	n := r.number()
	r.need("]")
	return n
}

// primary reads a formula that no operator takes apart.
func (r *reader) primary() api.Formula {
	switch {
	case r.takes("true"):
		return api.Formula{Op: api.OpTrue}
	case r.takes("false"):
		return api.Formula{Op: api.OpFalse}
	case r.takes("("):
		f := r.formula()
		r.need(")")
		return f
	}
	return r.value()
}

// value reads what says which value a signal has, or has not.
func (r *reader) value() api.Formula {
	f := api.Formula{Op: api.OpIs, Name: r.name(), Val: 1}
	switch {
	case r.takes("="):
		f.Val = r.number()
	case r.takes("!="):
		f.Val = r.number()
		return api.Formula{Op: api.OpNot, Args: []api.Formula{f}}
	}
	return f
}
