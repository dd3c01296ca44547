package truth_test

import (
	"math/rand"
	"slices"
	"strings"
	"testing"

	"foresight/api"
	"foresight/formula"
	"foresight/parser"
	"foresight/typing"
)

// three are signals of all sizes; a letter is a + 2 b + 6 c. The names of unknown are not among theirs.
var (
	three   = []api.Signal{{Name: "a", Input: true, Size: 2}, {Name: "b", Size: 3}, {Name: "c", Input: true, Size: 4}}
	unknown = []string{"d", "aa", "a_", "b1", "q", "inputs"}
)

// two are small signals; a letter is r + 2 g.
var two = []api.Signal{{Name: "r", Input: true, Size: 2}, {Name: "g", Size: 2}}

// ops are all operators.
var ops = []int{
	api.OpTrue, api.OpFalse, api.OpIs, api.OpNot, api.OpAnd, api.OpOr, api.OpImp, api.OpNext, api.OpUntil, api.OpRelease,
	api.OpFinally, api.OpGlobally, api.OpWithin, api.OpDuring, api.OpYesterday, api.OpSince, api.OpTrigger, api.OpOnce, api.OpHistorically,
}

var pastOps = []int{api.OpYesterday, api.OpSince, api.OpTrigger, api.OpOnce, api.OpHistorically}

var futureOps = []int{api.OpNext, api.OpUntil, api.OpRelease, api.OpFinally, api.OpGlobally, api.OpWithin, api.OpDuring}

// kernelOps are the operators of kernels, those of literals more often.
var kernelOps = []int{
	api.OpTrue, api.OpFalse, api.OpIs, api.OpIs, api.OpIs, api.OpNot, api.OpNot, api.OpAnd, api.OpOr, api.OpNext, api.OpUntil, api.OpRelease, api.OpYesterday, api.OpSince, api.OpTrigger,
}

func node(op int, args ...api.Formula) api.Formula { return api.Formula{Op: op, Args: args} }

// valued returns a formula with a Val.
func valued(op, val int, args ...api.Formula) api.Formula {
	return api.Formula{Op: op, Val: val, Args: args}
}

// bounded returns a formula with a Bound.
func bounded(op, bound int, f api.Formula) api.Formula {
	return api.Formula{Op: op, Bound: bound, Args: []api.Formula{f}}
}

func is(name string, val int) api.Formula { return api.Formula{Op: api.OpIs, Name: name, Val: val} }

func not(f api.Formula) api.Formula { return node(api.OpNot, f) }

// nested returns a formula within so many formulas with an operator.
func nested(op, times int, f api.Formula) api.Formula {
	for range times {
		f = node(op, f)
	}
	return f
}

// parse returns the formula of a text.
func parse(t *testing.T, text string) api.Formula {
	t.Helper()
	f, e, at := parser.Formula(text)
	if e != api.OK {
		t.Fatalf("%s: %v at %d", text, e, at)
	}
	return f
}

// bits returns a text of 0 and 1 for a row.
func bits(row []bool) string {
	var b strings.Builder
	for _, x := range row {
		b.WriteByte("01"[number(x)])
	}
	return b.String()
}

func number(x bool) int {
	if x {
		return 1
	}
	return 0
}

// nodesOf returns the nodes of a formula, depth first.
func nodesOf(f api.Formula) []api.Formula { return appendNodes(nil, f) }

func appendNodes(l []api.Formula, f api.Formula) []api.Formula {
	l = append(l, f)
	for _, g := range f.Args {
		l = appendNodes(l, g)
	}
	return l
}

func depthOf(f api.Formula) int {
	d := 0
	for _, g := range f.Args {
		d = max(d, depthOf(g))
	}
	return d + 1
}

// hasOp reports whether a node of a formula has one of some operators.
func hasOp(f api.Formula, ops []int) bool {
	return slices.Contains(ops, f.Op) || slices.ContainsFunc(f.Args, func(g api.Formula) bool { return hasOp(g, ops) })
}

// mixed reports whether a future operator is within a past one.
func mixed(f api.Formula) bool {
	return slices.Contains(pastOps, f.Op) && hasOp(f, futureOps) || slices.ContainsFunc(f.Args, mixed)
}

// definedLoose is the definition of loose kernels, but for the signals' names and values, which are those of formulas that are well-formed.
func definedLoose(f api.Formula) bool {
	l := nodesOf(f)
	if len(l) > 400 || depthOf(f) > 60 || mixed(f) {
		return false
	}
	for _, g := range l {
		head := api.Formula{Op: g.Op, Name: g.Name, Val: g.Val, Bound: g.Bound}
		for range min(len(g.Args), 5) {
			head.Args = append(head.Args, is("a", 0))
		}
		if !slices.Contains(kernelOps, g.Op) || !formula.Valid(head) || g.Op == api.OpNot && g.Args[0].Op != api.OpIs {
			return false
		}
	}
	return true
}

// definedEvaluable is the definition of the formulas that can be evaluated.
func definedEvaluable(l []api.Signal, f api.Formula) bool {
	sizes := map[string]int{}
	for _, s := range l {
		sizes[s.Name] = s.Size
	}
	foreign := slices.ContainsFunc(nodesOf(f), func(g api.Formula) bool { return g.Op == api.OpIs && g.Val >= sizes[g.Name] })
	return typing.Formula(l, f) == api.OK || definedLoose(f) && !foreign
}

// table is the truth of formulas by the table of the chapter. It takes the positions of the word one by one, each by itself, and uses no repetition but that horizon many positions, from any one on, show everything that there is.
type table struct {
	signals []api.Signal
	word    api.Lasso
	horizon int
}

// definedRow is the definition of the truth at the first n positions.
func definedRow(l []api.Signal, f api.Formula, w api.Lasso, n int) []bool {
	x := table{signals: l, word: w}
	x.horizon = x.repetition(f)
	return x.row(f, n)
}

// repetition returns the position at which a round begins before which the same past formulas are true as before an earlier round.
func (x table) repetition(f api.Formula) int {
	var past []api.Formula
	for _, g := range nodesOf(f) {
		if !hasOp(g, futureOps) {
			past = append(past, g)
		}
	}
	for rounds := 2; ; rounds *= 2 {
		var rows [][]bool
		for _, g := range past {
			rows = append(rows, x.row(g, len(x.word.Stem)+rounds*len(x.word.Loop)))
		}
		seen := map[string]bool{}
		for k := 1; k <= rounds; k++ {
			end := len(x.word.Stem) + k*len(x.word.Loop)
			var now []bool
			for _, row := range rows {
				now = append(now, row[end-1])
			}
			if seen[bits(now)] {
				return end
			}
			seen[bits(now)] = true
		}
	}
}

// letter returns the letter at a position.
func (x table) letter(t int) int {
	if t < len(x.word.Stem) {
		return x.word.Stem[t]
	}
	return x.word.Loop[(t-len(x.word.Stem))%len(x.word.Loop)]
}

// value returns the value of a signal at a position.
func (x table) value(name string, t int) int {
	letter := x.letter(t)
	for _, s := range x.signals {
		if s.Name == name {
			return letter % s.Size
		}
		letter /= s.Size
	}
	panic("there is no signal " + name)
}

// row returns the truth at the first n positions.
func (x table) row(f api.Formula, n int) []bool {
	seen := n // how many positions of the arguments matter
	switch f.Op {
	case api.OpNext:
		seen += 1
	case api.OpUntil, api.OpRelease, api.OpFinally, api.OpGlobally:
		seen += x.horizon
	case api.OpWithin, api.OpDuring:
		seen += f.Bound
	}
	var args [][]bool
	for _, g := range f.Args {
		args = append(args, x.row(g, seen))
	}
	var row []bool
	for t := range n {
		row = append(row, x.truth(f, args, t))
	}
	return row
}

// truth returns the truth at a position, from that of the arguments.
func (x table) truth(f api.Formula, args [][]bool, t int) bool {
	switch f.Op {
	case api.OpTrue:
		return true
	case api.OpIs:
		return x.value(f.Name, t) == f.Val
	case api.OpNot:
		return !args[0][t]
	case api.OpAnd:
		return !slices.ContainsFunc(args, func(row []bool) bool { return !row[t] })
	case api.OpOr:
		return slices.ContainsFunc(args, func(row []bool) bool { return row[t] })
	case api.OpImp:
		return !args[0][t] || args[1][t]
	case api.OpNext:
		return args[0][t+1]
	case api.OpUntil:
		u := t + slices.Index(args[1][t:t+x.horizon], true)
		return u >= t && !slices.Contains(args[0][t:u], false)
	case api.OpRelease:
		u := t + slices.Index(args[1][t:t+x.horizon], false)
		return u < t || slices.Contains(args[0][t:u], true)
	case api.OpFinally:
		return slices.Contains(args[0][t:t+x.horizon], true)
	case api.OpGlobally:
		return !slices.Contains(args[0][t:t+x.horizon], false)
	case api.OpWithin:
		return slices.Contains(args[0][t:t+f.Bound+1], true)
	case api.OpDuring:
		return !slices.Contains(args[0][t:t+f.Bound+1], false)
	}
	return pastTruth(f, args, t)
}

// pastTruth returns the truth of a formula with a past operator at a position; false for OpFalse, which is left over.
func pastTruth(f api.Formula, args [][]bool, t int) bool {
	switch f.Op {
	case api.OpYesterday:
		return t == 0 && f.Val == 1 || t > 0 && args[0][t-1]
	case api.OpSince:
		for u := t; u >= 0; u-- {
			if args[1][u] {
				return true
			}
			if !args[0][u] {
				return false
			}
		}
		return f.Val == 1
	case api.OpTrigger:
		for u := t; u >= 0; u-- {
			if !args[1][u] {
				return false
			}
			if args[0][u] {
				return true
			}
		}
		return f.Val == 1
	case api.OpOnce:
		return slices.Contains(args[0][:t+1], true)
	case api.OpHistorically:
		return !slices.Contains(args[0][:t+1], false)
	}
	return false
}

// copied returns a formula that shares no memory with f, and has room behind its arguments.
func copied(f api.Formula) api.Formula {
	f.Name = strings.Clone(f.Name)
	args := make([]api.Formula, 0, len(f.Args)+2)
	for _, g := range f.Args {
		args = append(args, copied(g))
	}
	f.Args = args
	return f
}

// pick returns an element of a list.
func pick[T any](r *rand.Rand, l []T) T { return l[r.Intn(len(l))] }

// maker makes random formulas of some signals, and words. A strict one negates values of signals alone.
type maker struct {
	*rand.Rand
	signals []api.Signal
	ops     []int
	strict  bool
}

func makerOf(seed int64, l []api.Signal, ops []int) maker {
	return maker{Rand: rand.New(rand.NewSource(seed)), signals: l, ops: ops, strict: len(ops) == len(kernelOps)}
}

// literal returns the formula that a signal has a value.
func (m maker) literal() api.Formula {
	s := pick(m.Rand, m.signals)
	return is(s.Name, m.Intn(s.Size))
}

// formula returns a layered formula with about so many nodes.
func (m maker) formula(nodes int, inPast bool) api.Formula {
	f := api.Formula{Op: pick(m.Rand, m.ops)}
	for m.leaf(f.Op) != (nodes <= 1) || inPast && slices.Contains(futureOps, f.Op) {
		f.Op = pick(m.Rand, m.ops)
	}
	n := arity(f.Op)
	switch f.Op {
	case api.OpIs:
		return m.literal()
	case api.OpNot:
		if m.strict {
			return not(m.literal())
		}
	case api.OpAnd, api.OpOr:
		n += m.Intn(3)
	case api.OpWithin, api.OpDuring:
		f.Bound = min(m.Intn(10), m.Intn(10))
	case api.OpYesterday, api.OpSince, api.OpTrigger:
		f.Val = m.Intn(2)
	}
	for i := range n {
		share := 1 + m.Intn(max(1, 2*(nodes-1)/(n-i)-1))
		nodes -= share
		f.Args = append(f.Args, m.formula(share, inPast || slices.Contains(pastOps, f.Op)))
	}
	return f
}

// leaf reports whether formulas with an operator are made without others as arguments.
func (m maker) leaf(op int) bool { return arity(op) == 0 || m.strict && op == api.OpNot }

// arity returns the least number of arguments of an operator.
func arity(op int) int {
	switch op {
	case api.OpTrue, api.OpFalse, api.OpIs:
		return 0
	case api.OpAnd, api.OpOr, api.OpImp, api.OpUntil, api.OpRelease, api.OpSince, api.OpTrigger:
		return 2
	}
	return 1
}

// evaluable returns n formulas that can be evaluated, with about at most so many nodes.
func (m maker) evaluable(n, nodes int) []api.Formula {
	var l []api.Formula
	for len(l) < n {
		if f := m.formula(1+m.Intn(nodes), false); definedEvaluable(m.signals, f) {
			l = append(l, f)
		}
	}
	return l
}

// letters returns n letters. Few of them are different, so that what is true changes seldom.
func (m maker) letters(n int) []int {
	number := 1
	for _, s := range m.signals {
		number *= s.Size
	}
	choice := []int{m.Intn(number), m.Intn(number), m.Intn(number)}
	var l []int
	for range n {
		l = append(l, pick(m.Rand, choice))
	}
	return l
}

// lasso returns a lasso with a Stem and a Loop of at most so many letters.
func (m maker) lasso(stem, loop int) api.Lasso {
	return api.Lasso{Stem: m.letters(m.Intn(stem + 1)), Loop: m.letters(1 + m.Intn(loop))}
}
