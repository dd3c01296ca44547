package typing_test

import (
	"fmt"
	"math"
	"math/rand"
	"slices"
	"strings"
	"testing"

	"foresight/api"
	"foresight/formula"
	"foresight/signal"
	"foresight/typing"
)

// fits compares the error of a formula with the right one, and that with the definition.
func fits(t *testing.T, l []api.Signal, f api.Formula, want api.Errno) {
	t.Helper()
	if e := typing.Formula(l, f); e != want {
		t.Errorf("%.200s: error %d instead of %d", fmt.Sprint(f), e, want)
	}
	if e := definedError(l, f); e != want {
		t.Errorf("%.200s: the definition has the error %d instead of %d", fmt.Sprint(f), e, want)
	}
}

// checks compares the faults of a specification with the right ones, and those with the definition.
func checks(t *testing.T, s api.Spec, want ...api.Fault) {
	t.Helper()
	if l := typing.Check(s); !slices.Equal(l, want) {
		t.Errorf("faults %v instead of %v", l, want)
	}
	if l := definedFaults(s); !slices.Equal(l, want) {
		t.Errorf("the definition has the faults %v instead of %v", l, want)
	}
	g, e := typing.Goal(s)
	if len(want) > 0 && (e != want[0].Err || !same(g, api.Formula{})) {
		t.Errorf("goal %v, error %d, in spite of %v", g, e, want)
	}
}

// aims compares the goal of a specification with the right one.
func aims(t *testing.T, s api.Spec, want api.Formula, err api.Errno) {
	t.Helper()
	if g, e := typing.Goal(s); e != err || !same(g, want) {
		t.Errorf("goal %.200s, error %d instead of %.200s, error %d", fmt.Sprint(g), e, fmt.Sprint(want), err)
	}
	if g, e := definedGoal(s); e != err || !same(g, want) {
		t.Errorf("the definition has the goal %.200s, error %d instead of %.200s, error %d", fmt.Sprint(g), e, fmt.Sprint(want), err)
	}
}

// P7.1: the chapter's examples.
func TestExamples(t *testing.T) {
	l := []api.Signal{{Name: "r", Input: true, Size: 2}, {Name: "m", Size: 3}}
	for _, x := range []struct {
		text string
		want api.Errno
	}{
		{"G (r -> F m = 2)", api.OK},
		{"G (r -> F m = 3)", api.ErrValue},
		{"G (q -> F r)", api.ErrName},
		{"G (O (F r) -> m = 0)", api.ErrMixed},
		{"F[9] F[9] r", api.ErrLimit},
	} {
		fits(t, l, parse(t, x.text), x.want)
	}
}

// badSignals are signals that are not well-formed.
func badSignals() [][]api.Signal {
	seven := []api.Signal{{Name: "d", Size: 2}, {Name: "e", Size: 2}, {Name: "f", Size: 2}, {Name: "g", Size: 2}}
	return [][]api.Signal{
		nil,
		{},
		append(slices.Clone(three), seven...),
		append(slices.Clone(three), seven[:2]...), // 96 letters
		{{Name: "a", Size: 2}, {Name: "a", Size: 2}},
		{{Name: "a", Size: 2}, {Name: "b", Size: 3}, {Name: "c", Size: 4}, {Name: "b", Input: true, Size: 2}},
		{{Name: "a", Size: 1}},
		{{Name: "a", Size: 5}},
		{{Name: "a"}},
		{{Name: "a", Size: -2}},
		{{Name: "", Size: 2}},
		{{Name: "A", Size: 2}},
		{{Name: "a", Size: 2}, {Name: "true", Size: 2}},
	}
}

// P7.1 (G1): signals that are not well-formed come first, whatever the formula is; so do they in specifications (G2).
func TestSignals(t *testing.T) {
	texts := []string{"true", "a", "b = 2 & F c = 3", "q", "a = 3", "O F a", "F[9] F[9] a"}
	for i, l := range badSignals() {
		if signal.Valid(l) {
			t.Fatalf("list %d is well-formed", i)
		}
		for _, text := range texts {
			fits(t, l, parse(t, text), api.ErrArg)
		}
		fits(t, l, api.Formula{}, api.ErrArg)
		fault := api.Fault{Req: -1, Err: api.ErrArg}
		checks(t, api.Spec{Signals: l}, fault)
		checks(t, api.Spec{Signals: l, Reqs: []api.Req{req(api.Guarantee, 0, parse(t, "a")), {}, {}}}, fault)
		checks(t, api.Spec{Signals: l, Reqs: make([]api.Req, 17)}, fault)
	}
	six := []api.Signal{{Name: "u", Size: 2}, {Name: "v", Size: 2}, {Name: "w", Size: 2}, {Name: "x", Size: 2}, {Name: "y", Size: 2}, {Name: "z", Size: 2}}
	fits(t, six, parse(t, "u & v & w & x & y & z=0"), api.OK)
	fits(t, six, parse(t, "u & v & w & x & y & z=2"), api.ErrValue)
	fits(t, six[:5], parse(t, "u & v & w & x & y & z=0"), api.ErrName)
	fits(t, []api.Signal{{Name: "abcdefghijkl", Size: 4}}, parse(t, "abcdefghijkl=3"), api.OK)
	fits(t, []api.Signal{{Name: "abcdefghijkl", Size: 4}}, parse(t, "abcdefghijk=3"), api.ErrName)
}

// P7.1 (G1): a formula that is not well-formed has ErrForm, also if its other faults come first in it.
func TestNotWellFormed(t *testing.T) {
	a, q, high := is("a", 1), is("q", 1), is("a", 3)
	mixed, long := node(api.OpOnce, node(api.OpFinally, a)), parse(t, "F[9] F[9] a")
	malformed := []api.Formula{
		{}, {Op: -1}, {Op: 20}, {Op: math.MaxInt}, {Op: math.MinInt}, {Op: api.OpTrue, Name: "a"}, {Op: api.OpFalse, Val: 1}, {Op: api.OpTrue, Args: []api.Formula{a}},
		{Op: api.OpIs}, {Op: api.OpIs, Name: "Q"}, {Op: api.OpIs, Name: "drop", Val: 1}, is("abcdefghijklm", 1), is("a", 4), is("c", 4), is("a", -1), is("q", math.MinInt), {Op: api.OpIs, Name: "a", Bound: 1}, {Op: api.OpIs, Name: "a", Args: []api.Formula{a}},
		node(api.OpNot), node(api.OpNot, a, a), node(api.OpAnd), node(api.OpAnd, a), node(api.OpOr, a), node(api.OpImp, a), node(api.OpUntil, a, a, a), {Op: api.OpNext, Val: 1, Args: []api.Formula{a}},
		{Op: api.OpWithin, Bound: 10, Args: []api.Formula{a}}, {Op: api.OpDuring, Bound: -1, Args: []api.Formula{a}}, {Op: api.OpYesterday, Val: 2, Args: []api.Formula{a}}, {Op: api.OpSince, Val: -1, Args: []api.Formula{a, a}}, {Op: api.OpTrigger, Args: []api.Formula{a}}, {Op: api.OpOnce, Val: 1, Args: []api.Formula{a}}, {Op: api.OpHistorically},
	}
	for _, f := range malformed {
		fits(t, three, f, api.ErrForm)
		for _, other := range []api.Formula{a, q, high, mixed, long} {
			fits(t, three, node(api.OpAnd, other, f), api.ErrForm)
			fits(t, three, node(api.OpAnd, f, other), api.ErrForm)
			fits(t, three, node(api.OpOnce, node(api.OpNext, node(api.OpImp, other, f))), api.ErrForm)
		}
	}
	fits(t, three, next(18, a), api.OK)
	fits(t, three, next(19, a), api.OK)
	fits(t, three, next(20, a), api.ErrForm)
	fits(t, three, next(20, q), api.ErrForm)
	fits(t, three, next(19, q), api.ErrName)
	fits(t, three, node(api.OpOnce, next(19, a)), api.ErrForm)
	fits(t, three, node(api.OpOnce, next(18, a)), api.ErrMixed)
	fits(t, three, node(api.OpAnd, slices.Repeat([]api.Formula{q}, 59)...), api.ErrName)
	fits(t, three, node(api.OpAnd, slices.Repeat([]api.Formula{q}, 60)...), api.ErrForm)
}

// P7.1 (G1): the first node with an error decides, a node before its arguments, these in order.
func TestFirstNode(t *testing.T) {
	for _, x := range []struct {
		text string
		want api.Errno
	}{
		{"q", api.ErrName}, {"a = 2", api.ErrValue}, {"O F a", api.ErrMixed}, {"q = 3", api.ErrName}, {"q = 0", api.ErrName}, {"!q", api.ErrName}, {"a != 2", api.ErrValue},
		{"q & a = 2", api.ErrName}, {"a = 2 & q", api.ErrValue}, {"q & O F a", api.ErrName}, {"O F a & q", api.ErrMixed}, {"a = 2 & O F a", api.ErrValue}, {"O F a & a = 2", api.ErrMixed},
		{"a & b & q & a = 2 & O F a", api.ErrName}, {"a & b & a = 2 & q & O F a", api.ErrValue}, {"a & b & O F a & q & a = 2", api.ErrMixed},
		{"q -> a = 2", api.ErrName}, {"a = 2 -> q", api.ErrValue}, {"q U a = 2", api.ErrName}, {"a = 2 U q", api.ErrValue}, {"q S a = 2", api.ErrName}, {"a = 2 S q", api.ErrValue}, {"a T q", api.ErrName}, {"a S a = 2", api.ErrValue},
		{"(a & X X q) | a = 2", api.ErrName}, {"(a & X X a = 2) | q", api.ErrValue}, {"(a & X O X a) | q", api.ErrMixed}, {"X X X q | a = 2", api.ErrName}, {"a = 2 | X X X q", api.ErrValue},
		{"O F q", api.ErrMixed}, {"O F a = 2", api.ErrMixed}, {"O (q & F a)", api.ErrMixed}, {"O (a = 2 & F a)", api.ErrMixed}, {"q S F a", api.ErrMixed}, {"(F a) S q", api.ErrMixed}, {"a = 2 T X a", api.ErrMixed}, {"O (q & Y F a)", api.ErrMixed}, {"O q & O F a", api.ErrName}, {"O (a = 2) & O F a", api.ErrValue}, {"X (O F a) & q", api.ErrMixed}, {"q & X (O F a)", api.ErrName},
		{"q & F[9] F[9] a", api.ErrName}, {"F[9] F[9] a & q", api.ErrName}, {"F[9] F[9] a = 2", api.ErrValue}, {"F[9] F[9] a & a = 2", api.ErrValue}, {"F[9] F[9] O F a", api.ErrMixed}, {"O F[9] F[9] a", api.ErrMixed}, {"F[9] F[9] a & O F a", api.ErrMixed}, {"F[9] F[9] a & Y b = 2", api.ErrLimit},
	} {
		fits(t, three, parse(t, x.text), x.want)
	}
}

// P7.1 (G1): every Val, just below and at the Size of its signal.
func TestValues(t *testing.T) {
	for _, s := range three {
		for val := range 4 {
			want := api.OK
			if val >= s.Size {
				want = api.ErrValue
			}
			fits(t, three, is(s.Name, val), want)
			fits(t, three, node(api.OpGlobally, node(api.OpNot, is(s.Name, val))), want)
			fits(t, []api.Signal{s}, is(s.Name, val), want)
		}
		fits(t, three, is(s.Name, 4), api.ErrForm)
	}
	for _, name := range unknown {
		for val := range 4 {
			fits(t, three, is(name, val), api.ErrName)
		}
	}
}

// around returns formulas in which f stands at different places.
func around(f api.Formula) []api.Formula {
	a := is("a", 1)
	l := []api.Formula{f, node(api.OpNot, f), node(api.OpAnd, a, a, f), node(api.OpOr, f, a, a), node(api.OpImp, a, f), node(api.OpImp, f, a), node(api.OpNot, node(api.OpNot, node(api.OpAnd, a, node(api.OpOr, a, f))))}
	for _, op := range []int{api.OpUntil, api.OpRelease} {
		l = append(l, node(op, a, f), node(op, f, a))
	}
	for _, op := range []int{api.OpNext, api.OpFinally, api.OpGlobally, api.OpWithin, api.OpDuring} {
		l = append(l, node(op, f), node(api.OpNext, node(op, f)))
	}
	return l
}

// P7.1 (G1): past operators over past and over future arguments, in all places, also deep ones.
func TestPastOperators(t *testing.T) {
	a := is("a", 1)
	for _, op := range pastOps {
		for i := range arity(op) {
			with := func(g api.Formula) api.Formula {
				f := node(op, slices.Repeat([]api.Formula{a}, arity(op))...)
				f.Args[i] = g
				return f
			}
			pasts := []api.Formula{a, node(api.OpTrue), node(api.OpNot, a), node(api.OpImp, a, node(api.OpOr, a, a)), node(api.OpYesterday, node(api.OpOnce, a))}
			for _, inner := range pastOps {
				pasts = append(pasts, node(inner, slices.Repeat([]api.Formula{a}, arity(inner))...))
			}
			for _, g := range pasts {
				for _, f := range around(with(g)) {
					fits(t, three, f, api.OK)
				}
			}
			for _, later := range futureOps {
				future := node(later, slices.Repeat([]api.Formula{a}, arity(later))...)
				for _, g := range []api.Formula{future, node(api.OpNot, future), node(api.OpAnd, a, a, future), node(api.OpImp, future, a), node(api.OpYesterday, node(api.OpOr, a, future)), node(api.OpSince, a, node(api.OpHistorically, future))} {
					for _, f := range around(with(g)) {
						fits(t, three, f, api.ErrMixed)
					}
				}
			}
		}
	}
}

// P7.1 (G1): kernels that are just small enough, and just too large.
func TestLimits(t *testing.T) {
	a := is("a", 1)
	literals := func(n int) []api.Formula { return slices.Repeat([]api.Formula{a}, n) }
	for _, x := range []struct {
		f    api.Formula
		want api.Errno
	}{
		{node(api.OpGlobally, node(api.OpAnd, literals(57)...)), api.OK}, // 59 nodes, and 60 in the kernel
		{node(api.OpGlobally, node(api.OpAnd, literals(58)...)), api.ErrLimit},
		{node(api.OpAnd, literals(59)...), api.OK},
		{node(api.OpNot, node(api.OpAnd, literals(29)...)), api.OK}, // 59 in the kernel
		{node(api.OpNot, node(api.OpAnd, literals(30)...)), api.ErrLimit},
		{node(api.OpImp, node(api.OpAnd, literals(28)...), a), api.OK}, // 59 in the kernel
		{node(api.OpImp, node(api.OpAnd, literals(28)...), node(api.OpNext, a)), api.OK},
		{node(api.OpImp, node(api.OpAnd, literals(28)...), node(api.OpNext, node(api.OpNext, a))), api.ErrLimit},
		{node(api.OpAnd, append(literals(7), parse(t, "F[8] (a & b & c)"))...), api.OK}, // 60 in the kernel
		{node(api.OpAnd, append(literals(8), parse(t, "F[8] (a & b & c)"))...), api.ErrLimit},
		{node(api.OpNot, node(api.OpOnce, node(api.OpOr, literals(28)...))), api.OK}, // 59 in the kernel
		{node(api.OpNot, node(api.OpOnce, node(api.OpOr, literals(29)...))), api.ErrLimit},

		{next(19, a), api.OK}, // the depth 20
		{next(18, node(api.OpImp, node(api.OpTrue), a)), api.OK},
		{next(18, node(api.OpImp, a, a)), api.ErrLimit}, // the depth 20, and 21 in the kernel
		{next(17, node(api.OpImp, a, a)), api.OK},
		{next(17, node(api.OpImp, node(api.OpNot, a), a)), api.OK},
		{parse(t, "F[9] X a"), api.OK}, // the depth 20 in the kernel
		{parse(t, "F[9] X X a"), api.ErrLimit},
		{parse(t, "G[9] !a"), api.OK},
		{parse(t, "G[9] X !a"), api.ErrLimit},
		{parse(t, "F[8] X X X a"), api.OK},
		{parse(t, "F[8] X X X X a"), api.ErrLimit},
		{parse(t, "F[9] F[1] a"), api.ErrLimit},
		{parse(t, "F[9] F[0] a"), api.OK},
		{parse(t, "F[9] F[9] F[9] F[9] F[9] F[9] F[9] F[9] F[9] F[9] F[9] F[9] F[9] F[9] F[9] F[9] F[9] F[9] F[9] a"), api.ErrLimit},
	} {
		fits(t, three, x.f, x.want)
	}
}

// P7.1 (G1): many formulas have the error of the definition.
func TestFormulas(t *testing.T) {
	counts := map[api.Errno]int{}
	for _, m := range []maker{good(71), faulty(72)} {
		for i := range 10000 {
			f := m.formula(1+m.Intn(25), false)
			switch {
			case i%20 == 0:
				each(&f, func(g *api.Formula) {
					if m.Intn(10) == 0 {
						g.Bound++
					}
				})
			case i%20 == 1:
				f = next(m.Intn(10), f)
			}
			want := definedError(three, f)
			counts[want]++
			fits(t, three, f, want)
		}
	}
	for _, e := range []api.Errno{api.OK, api.ErrForm, api.ErrName, api.ErrValue, api.ErrMixed, api.ErrLimit} {
		if counts[e] < 300 {
			t.Error("too few formulas:", counts)
		}
	}
}

// each calls visit with every node of a formula.
func each(f *api.Formula, visit func(f *api.Formula)) {
	visit(f)
	for i := range f.Args {
		each(&f.Args[i], visit)
	}
}

// P7.2: what fits mentions only signals and values that there are; its subformulas and its negation fit, unless limits are exceeded.
func TestParts(t *testing.T) {
	m := good(73)
	count := 0
	l := []api.Formula{
		parse(t, "!F[9] !(a | b | c)"), // its kernel has 58 nodes, that of the argument of ! has 88
		parse(t, "X X X X X X X X X X X X X X X X X !(b -> !a)"),
		node(api.OpNot, next(18, is("a", 1))),
		node(api.OpAnd, slices.Repeat([]api.Formula{is("a", 1)}, 59)...),
		next(19, is("a", 1)),
	}
	for range 4000 {
		l = append(l, m.formula(1+m.Intn(30), false))
	}
	errors := map[api.Errno]int{}
	for _, f := range l {
		if typing.Formula(three, f) != api.OK {
			continue
		}
		count++
		for _, name := range formula.Names(f) {
			if signal.Find(three, name) < 0 {
				t.Fatalf("%v: there is no %s", f, name)
			}
		}
		for _, g := range append(nodesOf(f), node(api.OpNot, f)) {
			want := api.OK
			switch {
			case len(nodesOf(g)) > 60 || depthOf(g) > 20:
				want = api.ErrForm
			case !hasKernel(g):
				want = api.ErrLimit
			}
			errors[want]++
			if e := typing.Formula(three, g); e != want {
				t.Errorf("%v: %v has the error %d instead of %d", f, g, e, want)
			}
		}
	}
	if count < 1500 || errors[api.OK] < 10000 || errors[api.ErrForm] < 2 || errors[api.ErrLimit] < 2 {
		t.Error("too few formulas:", count, errors)
	}
	fits(t, three, l[0], api.OK)
	fits(t, three, l[0].Args[0], api.ErrLimit)
}

// P7.3: what fits some signals fits them with further ones in any order.
func TestFurtherSignals(t *testing.T) {
	r := rand.New(rand.NewSource(74))
	m := good(75)
	further := []api.Signal{{Name: "d", Size: 2}, {Name: "aa", Input: true, Size: 2}, {Name: "z", Size: 2}}
	count := 0
	for range 3000 {
		f := m.formula(1+m.Intn(20), false)
		var l []api.Signal
		for _, s := range three {
			if slices.Contains(formula.Names(f), s.Name) {
				l = append(l, s)
			}
		}
		if typing.Formula(l, f) != api.OK {
			continue
		}
		for range 5 {
			all := slices.Clone(l)
			for _, s := range append(slices.Clone(three), further...) {
				if signal.Find(all, s.Name) < 0 && r.Intn(2) == 0 && signal.Letters(all)*s.Size <= 64 {
					all = append(all, s)
				}
			}
			all = shuffled(r, all)
			if e := typing.Formula(all, f); e != api.OK {
				t.Errorf("%v fits %v, but has the error %d with %v", f, l, e, all)
			}
			if len(all) > len(l) {
				count++
			}
		}
	}
	if count < 3000 {
		t.Error("too few lists:", count)
	}
}

// P7.1 (G2): 16 and 17 requirements.
func TestManyRequirements(t *testing.T) {
	s := api.Spec{Signals: three}
	for i := range 16 {
		checks(t, s)
		s.Reqs = append(s.Reqs, req(api.Guarantee, i, parse(t, "a")))
	}
	checks(t, s)
	seventeen, wrong := copiedSpec(s), copiedSpec(s)
	seventeen.Reqs = append(seventeen.Reqs, req(api.Guarantee, 16, parse(t, "a")))
	checks(t, seventeen, api.Fault{Req: -1, Err: api.ErrLimit})
	seventeen.Reqs[0].Formula = parse(t, "q")
	seventeen.Reqs[3].Name = seventeen.Reqs[2].Name
	checks(t, seventeen, api.Fault{Req: -1, Err: api.ErrLimit})
	checks(t, api.Spec{Signals: three, Reqs: make([]api.Req, 17)}, api.Fault{Req: -1, Err: api.ErrLimit})
	checks(t, api.Spec{Signals: three, Reqs: make([]api.Req, 100000)}, api.Fault{Req: -1, Err: api.ErrLimit})
	var all []api.Fault
	for i := range wrong.Reqs {
		wrong.Reqs[i].Formula = parse(t, []string{"q", "a = 3", "O F a", "F[9] F[9] a"}[i%4])
		all = append(all, api.Fault{Req: i, Err: []api.Errno{api.ErrName, api.ErrValue, api.ErrMixed, api.ErrLimit}[i%4]})
	}
	checks(t, wrong, all...)
}

// P7.1 (G2): a Kind, a Part or a Name that is not right comes first, whatever the formula is and the other requirements are.
func TestWrongRequirements(t *testing.T) {
	changes := []func(q *api.Req){}
	for _, kind := range []int{0, api.Owed, -1, 4, math.MaxInt, math.MinInt} {
		changes = append(changes, func(q *api.Req) { q.Kind = kind })
	}
	for _, name := range []string{"", "true", "part", "assume", "P", "1", "_p", "a-b", "a b", "abcdefghijklm", "é", strings.Repeat("a", 1<<20)} {
		changes = append(changes, func(q *api.Req) { q.Part = name }, func(q *api.Req) { q.Name = name })
	}
	texts := []string{"a", "q", "a = 3", "O F a", "F[9] F[9] a"}
	errs := []api.Errno{api.OK, api.ErrName, api.ErrValue, api.ErrMixed, api.ErrLimit}
	for _, kind := range []int{api.Assume, api.Guarantee} {
		for i, text := range texts {
			for _, change := range changes {
				s := api.Spec{Signals: three, Reqs: []api.Req{req(api.Guarantee, 0, parse(t, "a")), req(kind, 1, parse(t, text)), req(api.Assume, 2, parse(t, "a"))}}
				if errs[i] == api.OK {
					checks(t, s)
				} else {
					checks(t, s, api.Fault{Req: 1, Err: errs[i]})
				}
				change(&s.Reqs[1])
				checks(t, s, api.Fault{Req: 1, Err: api.ErrArg})
				s.Reqs[2].Formula = api.Formula{}
				checks(t, s, api.Fault{Req: 1, Err: api.ErrArg}, api.Fault{Req: 2, Err: api.ErrForm})
			}
		}
	}
	for _, name := range []string{"p", "n", "a", "abcdefghijkl", "a_1", "inputs", "owed"} {
		s := api.Spec{Signals: three, Reqs: []api.Req{{Part: name, Name: name, Kind: api.Assume, Formula: parse(t, "a")}}}
		checks(t, s)
	}
}

// P7.1 (G2): the same Name twice and three times.
func TestTwice(t *testing.T) {
	a := parse(t, "a")
	q := func(part, name string, kind int, f api.Formula) api.Req {
		return api.Req{Part: part, Name: name, Kind: kind, Formula: f}
	}
	fault := func(i int, e api.Errno) api.Fault { return api.Fault{Req: i, Err: e} }
	spec := func(l ...api.Req) api.Spec { return api.Spec{Signals: three, Reqs: l} }

	checks(t, spec(q("p", "x", 2, a), q("p", "y", 2, a)))
	checks(t, spec(q("p", "x", 2, a), q("p", "x", 2, a)), fault(1, api.ErrTwice))
	checks(t, spec(q("p", "x", 2, a), q("o", "x", 1, a)), fault(1, api.ErrTwice))
	checks(t, spec(q("p", "x", 2, a), q("o", "y", 1, a), q("o", "x", 2, a), q("u", "x", 1, a), q("p", "y", 2, a)), fault(2, api.ErrTwice), fault(3, api.ErrTwice), fault(4, api.ErrTwice))
	checks(t, spec(q("x", "p", 2, a), q("p", "x", 2, a), q("a", "a", 2, a), q("a", "b", 2, a)))

	for _, f := range []api.Formula{{}, parse(t, "q"), parse(t, "a = 2"), parse(t, "O F a"), parse(t, "F[9] F[9] a")} {
		e := definedError(three, f)
		checks(t, spec(q("p", "x", 2, f), q("o", "x", 2, a)), fault(0, e), fault(1, api.ErrTwice))
		checks(t, spec(q("p", "x", 2, a), q("o", "x", 2, f)), fault(1, api.ErrTwice))
		checks(t, spec(q("p", "x", 2, f), q("o", "x", 2, f), q("o", "x", 2, f)), fault(0, e), fault(1, api.ErrTwice), fault(2, api.ErrTwice))
		checks(t, spec(q("p", "y", 2, a), q("p", "x", 2, f), q("p", "z", 2, a), q("o", "x", 2, a)), fault(1, e), fault(3, api.ErrTwice))
	}
	checks(t, spec(q("p", "x", 0, a), q("o", "x", 2, a)), fault(0, api.ErrArg), fault(1, api.ErrTwice))
	checks(t, spec(q("P", "x", 2, a), q("o", "x", 2, a), q("o", "x", 3, a)), fault(0, api.ErrArg), fault(1, api.ErrTwice), fault(2, api.ErrArg))
	checks(t, spec(q("p", "x", 2, a), q("", "x", 2, a), q("p", "x", 2, a)), fault(1, api.ErrArg), fault(2, api.ErrTwice))
	checks(t, spec(q("p", "X", 2, a), q("p", "X", 2, a)), fault(0, api.ErrArg), fault(1, api.ErrArg))
	checks(t, spec(api.Req{}, api.Req{}), fault(0, api.ErrArg), fault(1, api.ErrArg))
}

// spoil makes requirements of a specification wrong.
func spoil(r *rand.Rand, m maker, s *api.Spec) {
	for i := range s.Reqs {
		q := &s.Reqs[i]
		switch r.Intn(12) {
		case 0:
			q.Kind = pick(r, []int{0, 3, -1})
		case 1:
			q.Part = pick(r, []string{"", "true", "A"})
		case 2:
			q.Name = pick(r, []string{"", "true", "A"})
		case 3, 4:
			q.Name = s.Reqs[r.Intn(len(s.Reqs))].Name
		case 5:
			q.Formula = api.Formula{Op: api.OpNot}
		case 6, 7:
			q.Formula = m.formula(30, false)
		}
	}
}

// P7.1 (G2), P7.4: many specifications have the faults of the definition; a fault other than ErrTwice is that of the requirement alone; without the faulty requirements there are no faults.
func TestFaults(t *testing.T) {
	r := rand.New(rand.NewSource(76))
	m := faulty(77)
	counts := map[api.Errno]int{}
	for range 3000 {
		s := m.spec(16, 8)
		spoil(r, m, &s)
		want := definedFaults(s)
		checks(t, s, want...)
		faults := map[int]api.Errno{}
		for _, f := range typing.Check(s) {
			faults[f.Req] = f.Err
			counts[f.Err]++
		}
		rest := api.Spec{Signals: s.Signals}
		for i, q := range s.Reqs {
			alone := definedFaults(api.Spec{Signals: three, Reqs: []api.Req{q}})
			e := faults[i]
			if e != api.ErrTwice && (len(alone) == 0) != (e == api.OK) || e != api.ErrTwice && e != api.OK && alone[0].Err != e {
				t.Errorf("requirement %d has the error %d, but %v alone", i, e, alone)
			}
			if e == api.OK {
				rest.Reqs = append(rest.Reqs, q)
			}
		}
		checks(t, rest)
	}
	for _, e := range []api.Errno{api.ErrArg, api.ErrTwice, api.ErrForm, api.ErrName, api.ErrValue, api.ErrMixed, api.ErrLimit} {
		if counts[e] < 200 {
			t.Error("too few faults:", counts)
		}
	}
}

const threeTexts = "input a; output b: 3; input c: 4; "

// P7.1 (G3), P7.5: goals that are known, of specifications without requirements, with those of one kind, and with both kinds.
func TestGoals(t *testing.T) {
	for _, x := range []struct{ reqs, goal string }{
		{"", "true"},
		{"part p { }", "true"},
		{"part p { guarantee g: F a; }", "true U a"},
		{"part p { guarantee g: b & a; }", "a & b"},
		{"part p { guarantee g: G (a -> F b = 2); guarantee h: !a; }", "!a & G (!a | F b = 2)"},
		{"part p { guarantee g: a; guarantee h: !a; }", "false"},
		{"part p { guarantee g: a; } part q { guarantee h: a; }", "a"},
		{"part p { assume x: F a; }", "true"},
		{"part p { assume x: false; assume y: a; }", "true"},
		{"part p { assume x: true; }", "true"},
		{"part p { assume x: F a; guarantee g: G b; }", "G b | G !a"},
		{"part p { assume x: a; assume y: c = 2; guarantee g: b = 1; guarantee h: b = 2; }", "!a | c != 2 | (b = 1 & b = 2)"},
		{"part p { assume x: Y a; guarantee g: b S c; }", "Z !a | (b S c)"},
		{"part p { assume x: a; guarantee g: a; }", "true"},
		{"part p { assume x: !a; guarantee g: a; }", "a"},
		{"part p { assume x: a & b; guarantee g: c; }", "c | !a | !b"},
		{"part p { guarantee g: b | a; guarantee h: c; assume x: c = 3; }", "!(c = 3) | (c & (a | b))"},
		{"part p { guarantee g: a | b; assume x: c = 3; }", "a | b | c != 3"},
		{"part p { guarantee g: false; assume x: F a; }", "false R !a"},
		{"part p { guarantee g: true; assume x: F a; }", "true"},
		{"part p { assume x: G F a; guarantee g: G F (a & b); }", "F G !a | G F (a & b)"},
	} {
		aims(t, load(t, threeTexts+x.reqs), formula.Canon(kernel(t, x.goal)), api.OK)
	}
}

// P7.1 (G3): many specifications have the goal of the definition; one that is not temporal is true on the letters that make an assumption false or all guarantees true.
func TestManyGoals(t *testing.T) {
	for _, s := range append(fittingSpecs(78, 1500, 5, 12), fittingSpecs(79, 100, 16, 6)...) {
		want, e := definedGoal(s)
		aims(t, s, want, e)
	}
	m := good(80)
	m.ops = []int{api.OpTrue, api.OpFalse, api.OpIs, api.OpIs, api.OpNot, api.OpAnd, api.OpOr, api.OpImp}
	count := 0
	for range 1000 {
		s := m.spec(5, 8)
		g, e := typing.Goal(s)
		if e != api.OK {
			t.Fatalf("%v: error %d", s, e)
		}
		for letter := range signal.Letters(three) {
			vals := map[string]int{}
			for i, x := range three {
				vals[x.Name] = signal.Value(three, letter, i)
			}
			assumed, guaranteed := true, true
			for _, q := range s.Reqs {
				if q.Kind == api.Assume {
					assumed = assumed && holds(q.Formula, vals)
				} else {
					guaranteed = guaranteed && holds(q.Formula, vals)
				}
			}
			if want := !assumed || guaranteed; holds(g, vals) != want {
				t.Fatalf("%v: the goal is %v with %v", s, g, vals)
			} else if !want {
				count++
			}
		}
	}
	if count < 3000 {
		t.Error("too few letters:", count)
	}
}

// sized returns a canonical kernel with some nodes, none of them a conjunction or a disjunction. Its first literal is the one with a number, from 0 to 8, so that it differs from those with other numbers.
func sized(nodes, number int) api.Formula {
	switch {
	case nodes == 1:
		return []api.Formula{is("a", 0), is("a", 1), is("b", 0), is("b", 1), is("b", 2), is("c", 0), is("c", 1), is("c", 2), is("c", 3)}[number]
	case nodes%2 == 0:
		return node(api.OpNext, sized(nodes-1, number))
	}
	left := (nodes - 1) / 2
	return node(api.OpUntil, sized(left, number), sized(nodes-1-left, 0))
}

// large returns a specification whose guarantees' conjunction has some nodes, from 310 to 420.
func large(nodes int) api.Spec {
	s := api.Spec{Signals: three}
	nodes--
	for i := range 6 {
		s.Reqs = append(s.Reqs, req(api.Guarantee, i, sized(50+i, i)))
		nodes -= 50 + i
	}
	for nodes > 0 {
		n := min(nodes, 49)
		s.Reqs = append(s.Reqs, req(api.Guarantee, len(s.Reqs), sized(n, len(s.Reqs))))
		nodes -= n
	}
	return s
}

// with returns a specification with further requirements.
func with(s api.Spec, kind int, l ...api.Formula) api.Spec {
	s = copiedSpec(s)
	for _, f := range l {
		s.Reqs = append(s.Reqs, req(kind, len(s.Reqs), f))
	}
	return s
}

// P7.1 (G3): goals on both sides of the limits of loose kernels.
func TestLargeGoals(t *testing.T) {
	a, b := is("a", 1), is("b", 2)
	not := func(f api.Formula) api.Formula { return node(api.OpNot, f) }
	yes, no := node(api.OpTrue), node(api.OpFalse)
	ok := func(s api.Spec, nodes int) {
		t.Helper()
		want, e := definedGoal(s)
		aims(t, s, want, e)
		if g, e := typing.Goal(s); e != api.OK || len(nodesOf(g)) != nodes {
			t.Errorf("error %d and %d nodes instead of %d", e, len(nodesOf(g)), nodes)
		}
	}
	tooLarge := func(s api.Spec) {
		t.Helper()
		aims(t, s, api.Formula{}, api.ErrLimit)
	}
	for n := 380; n <= 400; n++ {
		ok(large(n), n)
	}
	for n := 401; n <= 410; n++ {
		tooLarge(large(n))
	}
	ok(with(large(400), api.Assume, yes), 400)
	ok(with(large(400), api.Assume, no), 1)
	ok(with(large(400), api.Guarantee, yes), 400)
	ok(with(large(400), api.Guarantee, no), 1)
	ok(with(large(400), api.Guarantee, large(400).Reqs[0].Formula), 400)
	tooLarge(with(large(400), api.Assume, a))
	tooLarge(with(large(400), api.Assume, not(a)))
	tooLarge(with(large(400), api.Guarantee, is("c", 3)))

	// Only the goal is too large.
	ok(with(large(398), api.Assume, not(a)), 400)
	tooLarge(with(large(398), api.Assume, a))
	ok(with(large(397), api.Assume, a), 400)
	tooLarge(with(large(397), api.Assume, a, not(b)))
	ok(with(large(397), api.Assume, a, no), 1)
	ok(with(large(396), api.Assume, a, not(b)), 400)
	ok(with(large(396), api.Assume, a, a, yes, not(b)), 400)
	ok(with(large(396), api.Assume, not(b), b), 1)

	// The conjunction of the guarantees' kernels alone is too large, even where the goal would be true.
	tooLarge(with(large(401), api.Assume, no))
	tooLarge(with(large(401), api.Assume, a, not(a)))
	tooLarge(with(large(401), api.Assume, yes))
	tooLarge(with(large(401), api.Assume, a))
	tooLarge(with(large(420), api.Assume, no))
	ok(with(large(420), api.Guarantee, no), 1)
	ok(with(large(420), api.Guarantee, a, not(a)), 1)
	ok(with(large(420), api.Guarantee, no, a, yes), 1)
}

// P7.1 (G3): assumptions whose negations have more nodes and a greater depth than kernels can have, and are too large together.
func TestLargeAssumptions(t *testing.T) {
	s := api.Spec{Signals: three, Reqs: []api.Req{req(api.Guarantee, 0, is("a", 0))}}
	for _, f := range []api.Formula{sized(59, 3), next(19, is("a", 1))} {
		not := formula.Not(f)
		if typing.Formula(three, f) != api.OK || formula.IsKernel(not) {
			t.Errorf("%v is no example", f)
		}
		aims(t, with(s, api.Assume, f), formula.Or([]api.Formula{is("a", 0), not}), api.OK)
	}
	nodes := 2 // of the disjunction and the guarantee
	for i := range 8 {
		f := sized(59, i)
		nodes += len(nodesOf(formula.Not(f)))
		s = with(s, api.Assume, f)
		want, e := definedGoal(s)
		aims(t, s, want, e)
		if nodes > 400 != (e == api.ErrLimit) {
			t.Errorf("error %d with %d nodes", e, nodes)
		}
	}
}

// P7.5: the goal does not depend on the order; what is true changes nothing; an assumption that is false makes it true; without assumptions it is the conjunction.
func TestOrder(t *testing.T) {
	r := rand.New(rand.NewSource(81))
	trues := []api.Formula{node(api.OpTrue), parse(t, "F true"), parse(t, "a | !a"), parse(t, "a -> a"), parse(t, "b U true"), parse(t, "!(X false)"), parse(t, "G[3] true")}
	count := 0
	for _, s := range append(fittingSpecs(82, 600, 5, 12), fittingSpecs(83, 100, 15, 5)...) {
		g, e := typing.Goal(s)
		for range 3 {
			aims(t, api.Spec{Signals: s.Signals, Reqs: shuffled(r, s.Reqs)}, g, e)
		}
		if e != api.OK {
			continue
		}
		for _, f := range trues {
			aims(t, with(s, api.Guarantee, f), g, api.OK)
			aims(t, with(s, api.Assume, f), g, api.OK)
			aims(t, with(s, api.Assume, node(api.OpNot, f)), node(api.OpTrue), api.OK)
			first := with(api.Spec{Signals: three}, api.Assume, node(api.OpNot, f))
			first.Reqs[0].Name = "first"
			first.Reqs = append(first.Reqs, s.Reqs...)
			aims(t, first, node(api.OpTrue), api.OK)
		}
		if len(kernelsOf(s, api.Assume)) == 0 {
			count++
			aims(t, s, formula.And(kernelsOf(s, api.Guarantee)), api.OK)
		}
	}
	if count < 50 {
		t.Error("too few specifications without assumptions:", count)
	}
}

// P7.6: the goal does not depend on the names of requirements and parts.
func TestNames(t *testing.T) {
	r := rand.New(rand.NewSource(84))
	names := []string{"a", "b", "c", "z", "p", "abcdefghijkl", "x_1", "g", "h", "u", "v", "inputs", "na", "nb", "nc", "nd"}
	for _, s := range append(fittingSpecs(85, 600, 5, 12), fittingSpecs(86, 100, 16, 5)...) {
		g, e := typing.Goal(s)
		for range 3 {
			u := copiedSpec(s)
			for i, name := range shuffled(r, names)[:len(u.Reqs)] {
				u.Reqs[i].Name, u.Reqs[i].Part = name, pick(r, names)
			}
			aims(t, u, g, e)
		}
	}
}

// P1, P3: every function returns for all arguments, also deep, wide and shared ones, and equal arguments yield equal results.
func TestAnyArguments(t *testing.T) {
	deep, shared := is("a", 1), is("a", 1)
	for range 1 << 16 {
		deep = node(api.OpOnce, deep)
	}
	for range 64 {
		shared = node(api.OpAnd, shared, shared)
	}
	wide := node(api.OpOr, make([]api.Formula, 1<<20)...)
	for _, f := range []api.Formula{deep, shared, wide, node(api.OpOnce, deep), node(api.OpAnd, is("q", 1), wide)} {
		s := api.Spec{Signals: three, Reqs: []api.Req{req(api.Guarantee, 0, is("a", 1)), req(api.Guarantee, 1, f)}}
		for range 2 {
			if e := typing.Formula(three, f); e != api.ErrForm {
				t.Errorf("error %d", e)
			}
			if l := typing.Check(s); len(l) != 1 || l[0] != (api.Fault{Req: 1, Err: api.ErrForm}) {
				t.Errorf("faults %v", l)
			}
			if g, e := typing.Goal(s); e != api.ErrForm || !same(g, api.Formula{}) {
				t.Errorf("goal %v, error %d", g, e)
			}
		}
	}
	many := make([]api.Signal, 1<<20)
	if e := typing.Formula(many, is("a", 1)); e != api.ErrArg {
		t.Errorf("error %d", e)
	}
	checks(t, api.Spec{}, api.Fault{Req: -1, Err: api.ErrArg})
	empty := api.Formula{Op: api.OpIs, Name: "a", Args: []api.Formula{}}
	aims(t, api.Spec{Signals: three, Reqs: []api.Req{req(api.Guarantee, 0, empty)}}, is("a", 0), api.OK)
	aims(t, api.Spec{Signals: three, Reqs: []api.Req{}}, node(api.OpTrue), api.OK)
}

// Rules: arguments are not modified, and results share no memory with them, with each other, or within themselves.
func TestMemory(t *testing.T) {
	for _, s := range append(fittingSpecs(87, 300, 6, 12), api.Spec{Signals: three, Reqs: make([]api.Req, 3)}, large(400)) {
		u, v := copiedSpec(s), copiedSpec(s)
		for _, q := range u.Reqs {
			typing.Formula(u.Signals, q.Formula)
		}
		faults := typing.Check(u)
		g, e := typing.Goal(u)
		again, _ := typing.Goal(u)
		if !sameSpec(u, v) {
			t.Fatalf("%v became %v", v, u)
		}
		want, wanted := copied(g), slices.Clone(faults)
		wipe(&again)
		if !sameSpec(u, v) || !same(g, want) {
			t.Fatalf("%v: the goal shares memory", v)
		}
		for i := range u.Reqs {
			wipe(&u.Reqs[i].Formula)
			u.Reqs[i] = api.Req{}
		}
		clear(u.Signals)
		if !same(g, want) || !slices.Equal(faults, wanted) {
			t.Fatalf("%v: a result shares memory with the argument", v)
		}
		if e != api.OK {
			continue
		}
		seen := map[*api.Formula]bool{}
		each(&g, func(f *api.Formula) {
			if seen[f] {
				t.Fatalf("%v: parts of the goal share memory", v)
			}
			seen[f] = true
		})
	}
}
