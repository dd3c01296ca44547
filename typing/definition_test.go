package typing_test

import (
	"math/rand"
	"slices"
	"strings"
	"testing"

	"foresight/api"
	"foresight/formula"
	"foresight/parser"
	"foresight/signal"
)

// three are signals of all sizes; the names of unknown are not among theirs.
var (
	three   = []api.Signal{{Name: "a", Input: true, Size: 2}, {Name: "b", Size: 3}, {Name: "c", Input: true, Size: 4}}
	unknown = []string{"d", "aa", "a_", "b1", "q", "inputs"}
)

// ops are all operators.
var ops = []int{
	api.OpTrue, api.OpFalse, api.OpIs, api.OpNot, api.OpAnd, api.OpOr, api.OpImp, api.OpNext, api.OpUntil, api.OpRelease,
	api.OpFinally, api.OpGlobally, api.OpWithin, api.OpDuring, api.OpYesterday, api.OpSince, api.OpTrigger, api.OpOnce, api.OpHistorically,
}

var pastOps = []int{api.OpYesterday, api.OpSince, api.OpTrigger, api.OpOnce, api.OpHistorically}

var futureOps = []int{api.OpNext, api.OpUntil, api.OpRelease, api.OpFinally, api.OpGlobally, api.OpWithin, api.OpDuring}

func node(op int, args ...api.Formula) api.Formula { return api.Formula{Op: op, Args: args} }

func is(name string, val int) api.Formula { return api.Formula{Op: api.OpIs, Name: name, Val: val} }

func next(times int, f api.Formula) api.Formula {
	for range times {
		f = node(api.OpNext, f)
	}
	return f
}

// parse returns the formula of a text.
func parse(t *testing.T, text string) api.Formula {
	t.Helper()
	f, e, at := parser.Formula(text)
	if e != api.OK {
		t.Fatalf("%s: %v at %d", text, e, at)
	}
	return f
}

// load returns the specification of a text.
func load(t *testing.T, text string) api.Spec {
	t.Helper()
	s, e, at := parser.Spec(text)
	if e != api.OK {
		t.Fatalf("%s: %v at %d", text, e, at)
	}
	return s
}

// kernel returns the kernel of the formula of a text.
func kernel(t *testing.T, text string) api.Formula {
	t.Helper()
	k, e := formula.Kernel(parse(t, text))
	if e != api.OK {
		t.Fatalf("%s: no kernel: %v", text, e)
	}
	return k
}

// nodesOf returns the nodes of a formula, depth first.
func nodesOf(f api.Formula) []api.Formula {
	l := []api.Formula{f}
	for _, g := range f.Args {
		l = append(l, nodesOf(g)...)
	}
	return l
}

func depthOf(f api.Formula) int {
	d := 0
	for _, g := range f.Args {
		d = max(d, depthOf(g))
	}
	return d + 1
}

// kernelExtent returns the size and the depth of the positive or the negative form of a formula, at most 1000 each. It follows the table of layer 3.
func kernelExtent(f api.Formula, negative bool) (int, int) {
	if f.Op == api.OpNot {
		return kernelExtent(f.Args[0], !negative)
	}
	if f.Op == api.OpIs && negative {
		return 2, 2
	}
	size, depth := 1, 0
	switch f.Op {
	case api.OpFinally, api.OpGlobally, api.OpOnce, api.OpHistorically:
		size, depth = 2, 1
	}
	for i, g := range f.Args {
		s, d := kernelExtent(g, negative != (f.Op == api.OpImp && i == 0))
		if f.Op == api.OpWithin || f.Op == api.OpDuring {
			return min(1000, (f.Bound+1)*s+2*f.Bound), min(1000, 2*f.Bound+d)
		}
		size, depth = size+s, max(depth, d)
	}
	return min(1000, size), depth + 1
}

// hasKernel reports whether a layered well-formed formula has a kernel.
func hasKernel(f api.Formula) bool {
	size, depth := kernelExtent(f, false)
	return size <= 60 && depth <= 20
}

// definedError is the definition of the error of a formula.
func definedError(l []api.Signal, f api.Formula) api.Errno {
	if !signal.Valid(l) {
		return api.ErrArg
	}
	if !formula.Valid(f) {
		return api.ErrForm
	}
	sizes := map[string]int{}
	for _, s := range l {
		sizes[s.Name] = s.Size
	}
	for _, n := range nodesOf(f) {
		size := sizes[n.Name]
		switch {
		case n.Op == api.OpIs && size == 0:
			return api.ErrName
		case n.Op == api.OpIs && n.Val > size-1:
			return api.ErrValue
		case slices.Contains(pastOps, n.Op) && slices.ContainsFunc(nodesOf(n), func(m api.Formula) bool { return slices.Contains(futureOps, m.Op) }):
			return api.ErrMixed
		}
	}
	if !hasKernel(f) {
		return api.ErrLimit
	}
	return api.OK
}

// definedFaults is the definition of the faults of a specification.
func definedFaults(s api.Spec) []api.Fault {
	switch {
	case !signal.Valid(s.Signals):
		return []api.Fault{{Req: -1, Err: api.ErrArg}}
	case len(s.Reqs) > 16:
		return []api.Fault{{Req: -1, Err: api.ErrLimit}}
	}
	var l []api.Fault
	seen := map[string]bool{}
	for i, q := range s.Reqs {
		e := definedError(s.Signals, q.Formula)
		if seen[q.Name] {
			e = api.ErrTwice
		}
		seen[q.Name] = true
		if q.Kind < 1 || q.Kind > 2 || !signal.Name(q.Part) || !signal.Name(q.Name) {
			e = api.ErrArg
		}
		if e != api.OK {
			l = append(l, api.Fault{Req: i, Err: e})
		}
	}
	return l
}

// definedGoal is the definition of the goal of a specification.
func definedGoal(s api.Spec) (api.Formula, api.Errno) {
	if l := definedFaults(s); len(l) > 0 {
		return api.Formula{}, l[0].Err
	}
	all := formula.And(kernelsOf(s, api.Guarantee))
	if all.Op == 0 {
		return api.Formula{}, api.ErrLimit
	}
	l := []api.Formula{all}
	for _, k := range kernelsOf(s, api.Assume) {
		l = append(l, formula.Not(k))
	}
	if goal := formula.Or(l); goal.Op != 0 {
		return goal, api.OK
	}
	return api.Formula{}, api.ErrLimit
}

// kernelsOf returns the kernels of the requirements of a kind.
func kernelsOf(s api.Spec, kind int) []api.Formula {
	var l []api.Formula
	for _, q := range s.Reqs {
		k, e := formula.Kernel(q.Formula)
		if q.Kind == kind && e == api.OK {
			l = append(l, k)
		}
	}
	return l
}

// holds reports whether a formula without past and future operators is true for some values.
func holds(f api.Formula, vals map[string]int) bool {
	switch f.Op {
	case api.OpTrue:
		return true
	case api.OpFalse:
		return false
	case api.OpIs:
		return vals[f.Name] == f.Val
	case api.OpNot:
		return !holds(f.Args[0], vals)
	case api.OpImp:
		return !holds(f.Args[0], vals) || holds(f.Args[1], vals)
	}
	for _, g := range f.Args {
		if holds(g, vals) == (f.Op == api.OpOr) {
			return f.Op == api.OpOr
		}
	}
	return f.Op == api.OpAnd
}

func same(f, g api.Formula) bool {
	return f.Op == g.Op && f.Name == g.Name && f.Val == g.Val && f.Bound == g.Bound && slices.EqualFunc(f.Args, g.Args, same)
}

// copied returns a formula that shares no memory with f, and has room behind its arguments.
func copied(f api.Formula) api.Formula {
	f.Name = strings.Clone(f.Name)
	args := make([]api.Formula, 0, len(f.Args)+2)
	for _, g := range f.Args {
		args = append(args, copied(g))
	}
	f.Args = args
	return f
}

// copiedSpec returns a specification that shares no memory with s, and has room behind its lists.
func copiedSpec(s api.Spec) api.Spec {
	u := api.Spec{Signals: append(make([]api.Signal, 0, len(s.Signals)+2), s.Signals...), Reqs: make([]api.Req, 0, len(s.Reqs)+2)}
	for _, q := range s.Reqs {
		q.Formula = copied(q.Formula)
		u.Reqs = append(u.Reqs, q)
	}
	return u
}

func sameSpec(s, u api.Spec) bool {
	return slices.Equal(s.Signals, u.Signals) && slices.EqualFunc(s.Reqs, u.Reqs, func(q, r api.Req) bool {
		return q.Part == r.Part && q.Name == r.Name && q.Kind == r.Kind && same(q.Formula, r.Formula)
	})
}

// wipe overwrites all nodes of a formula.
func wipe(f *api.Formula) {
	for i := range f.Args {
		wipe(&f.Args[i])
	}
	f.Op, f.Name, f.Val, f.Bound = -1, "wiped", -1, -1
}

// pick returns an element of a list.
func pick[T any](r *rand.Rand, l []T) T { return l[r.Intn(len(l))] }

// shuffled returns a list with the same elements in another order.
func shuffled[T any](r *rand.Rand, l []T) []T {
	l = slices.Clone(l)
	r.Shuffle(len(l), func(i, k int) { l[i], l[k] = l[k], l[i] })
	return l
}

// maker makes random formulas. The chances are in percent.
type maker struct {
	*rand.Rand
	ops                        []int
	badName, badValue, badPast int
}

// formula returns a formula with about so many nodes.
func (m maker) formula(nodes int, inPast bool) api.Formula {
	f := api.Formula{Op: pick(m.Rand, m.ops)}
	for arity(f.Op) == 0 != (nodes <= 1) || inPast && slices.Contains(futureOps, f.Op) && m.Intn(100) >= m.badPast {
		f.Op = pick(m.Rand, m.ops)
	}
	n := arity(f.Op)
	switch f.Op {
	case api.OpIs:
		s := pick(m.Rand, three)
		f.Name, f.Val = s.Name, m.Intn(s.Size)
		if m.Intn(100) < m.badName {
			f.Name = pick(m.Rand, unknown)
		}
		if m.Intn(100) < m.badValue {
			f.Val = min(3, s.Size+m.Intn(2))
		}
	case api.OpAnd, api.OpOr:
		n += m.Intn(3)
	case api.OpWithin, api.OpDuring:
		f.Bound = min(m.Intn(10), m.Intn(10))
	case api.OpYesterday, api.OpSince, api.OpTrigger:
		f.Val = m.Intn(2)
	}
	for i := range n {
		share := 1 + m.Intn(max(1, 2*(nodes-1)/(n-i)-1))
		nodes -= share
		f.Args = append(f.Args, m.formula(share, inPast || slices.Contains(pastOps, f.Op)))
	}
	return f
}

// arity returns the least number of arguments of an operator.
func arity(op int) int {
	switch op {
	case api.OpTrue, api.OpFalse, api.OpIs:
		return 0
	case api.OpAnd, api.OpOr, api.OpImp, api.OpUntil, api.OpRelease, api.OpSince, api.OpTrigger:
		return 2
	}
	return 1
}

// spec returns a specification with at most so many requirements that have names of their own.
func (m maker) spec(most, size int) api.Spec {
	s := api.Spec{Signals: three}
	for i := range m.Intn(most + 1) {
		kind := api.Guarantee
		if m.Intn(3) == 0 {
			kind = api.Assume
		}
		s.Reqs = append(s.Reqs, req(kind, i, m.formula(1+m.Intn(size), false)))
	}
	return s
}

// req returns a requirement whose name says its number.
func req(kind, number int, f api.Formula) api.Req {
	return api.Req{Part: "p", Name: "n" + string(rune('a'+number)), Kind: kind, Formula: f}
}

// good makes formulas that fit, but for their limits; faulty makes others, too.
func good(seed int64) maker { return maker{Rand: rand.New(rand.NewSource(seed)), ops: ops} }

func faulty(seed int64) maker {
	m := good(seed)
	m.badName, m.badValue, m.badPast = 5, 5, 10
	return m
}

// fittingSpecs returns many specifications without faults.
func fittingSpecs(seed int64, n, most, size int) []api.Spec {
	m := good(seed)
	var l []api.Spec
	for len(l) < n {
		if s := m.spec(most, size); len(definedFaults(s)) == 0 {
			l = append(l, s)
		}
	}
	return l
}
