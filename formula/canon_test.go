package formula_test

import (
	"math/rand"
	"slices"
	"testing"

	"foresight/api"
	"foresight/formula"
)

// canonical is the definition of canonical forms; the list of an operator is formed without sorting functions.
func canonical(f api.Formula) api.Formula {
	args := mapped(f.Args, canonical)
	switch f.Op {
	case api.OpAnd:
		return canonicalList(f.Op, args, yes, no)
	case api.OpOr:
		return canonicalList(f.Op, args, no, yes)
	case api.OpNext:
		if args[0].Op == api.OpTrue || args[0].Op == api.OpFalse {
			return args[0]
		}
	case api.OpUntil, api.OpRelease:
		skip := api.OpFalse
		if f.Op == api.OpRelease {
			skip = api.OpTrue
		}
		if args[1].Op == api.OpTrue || args[1].Op == api.OpFalse || args[0].Op == skip {
			return args[1]
		}
	}
	return api.Formula{Op: f.Op, Name: f.Name, Val: f.Val, Args: args}
}

func canonicalList(o int, args []api.Formula, unit, zero api.Formula) api.Formula {
	var l []api.Formula
	insert := func(f api.Formula) {
		at := 0
		for at < len(l) && compareKeys(key(l[at]), key(f)) < 0 {
			at++
		}
		if equal(f, unit) || at < len(l) && equal(l[at], f) {
			return
		}
		l = slices.Insert(l, at, f)
	}
	for _, f := range args {
		if f.Op == o {
			for _, g := range f.Args {
				insert(g)
			}
			continue
		}
		insert(f)
	}
	for _, f := range l {
		for _, g := range l {
			if equal(f, zero) || f.Op == api.OpIs && equal(g, not(f)) {
				return zero
			}
		}
	}
	switch len(l) {
	case 0:
		return unit
	case 1:
		return l[0]
	}
	return op(o, l...)
}

// P3.1 (C4): the rules of canonical forms, with true and false as arguments of each operator.
func TestCanonRules(t *testing.T) {
	never, always := and(a, not(a)), or(b, not(b))
	since := func(val int, f, g api.Formula) api.Formula { return late(api.OpSince, val, f, g) }
	trigger := func(val int, f, g api.Formula) api.Formula { return late(api.OpTrigger, val, f, g) }
	yesterday := func(val int, f api.Formula) api.Formula { return late(api.OpYesterday, val, f) }
	for i, x := range []struct{ f, want api.Formula }{
		{yes, yes}, {no, no}, {a, a}, {is("a", 0), is("a", 0)}, {not(a), not(a)},

		{and(a, yes), a}, {and(yes, a), a}, {and(yes, yes), yes}, {and(a, no), no}, {and(no, a), no}, {and(no, no), no}, {and(yes, no), no}, {and(a, b, yes, a), and(a, b)}, {and(a, b, no), no}, {and(yes, yes, yes, yes), yes},
		{or(a, no), a}, {or(no, a), a}, {or(no, no), no}, {or(a, yes), yes}, {or(yes, a), yes}, {or(yes, yes), yes}, {or(yes, no), yes}, {or(a, b, no, a), or(a, b)}, {or(a, b, yes), yes}, {or(no, no, no, no), no},

		{and(a, a), a}, {or(a, a, a), a}, {and(b, a), and(a, b)}, {or(c, b, a), or(a, b, c)}, {and(b, and(a, b)), and(a, b)}, {and(and(c, b), and(b, a)), and(a, b, c)}, {or(or(or(c, b), a), c), or(a, b, c)},
		{and(or(b, a), or(a, b)), or(a, b)}, {and(or(b, a), c), and(c, or(a, b))}, {or(and(b, a), c), or(c, and(a, b))}, {and(or(a, a), b), and(a, b)}, {and(or(and(c, b), no), a), and(a, b, c)}, {or(and(or(c, b), yes), a), or(a, b, c)},

		{never, no}, {always, yes}, {or(a, not(a)), yes}, {and(b, a, c, not(a)), no}, {or(not(a), b, c, a), yes}, {and(not(a), not(b)), and(not(a), not(b))}, {and(a, not(b)), and(a, not(b))}, {and(a, not(is("a", 0))), and(a, not(is("a", 0)))}, {and(a, is("a", 0)), and(is("a", 0), a)}, {and(and(a, b), not(a)), no}, {and(a, or(b, not(a))), and(a, or(b, not(a)))}, {or(and(a, b), not(a)), or(not(a), and(a, b))},
		{and(next(a), next(not(a))), and(next(a), next(not(a)))}, {or(next(a), next(not(a))), or(next(a), next(not(a)))}, {and(until(a, b), unless(not(a), not(b))), and(until(a, b), unless(not(a), not(b)))}, {and(yesterday(0, a), yesterday(1, not(a))), and(yesterday(0, a), yesterday(1, not(a)))}, {or(yesterday(1, a), yesterday(0, a)), or(yesterday(0, a), yesterday(1, a))},

		{next(yes), yes}, {next(no), no}, {next(a), next(a)}, {next(next(next(yes))), yes}, {next(always), yes}, {next(never), no}, {next(and(b, a)), next(and(a, b))},

		{until(yes, yes), yes}, {until(yes, no), no}, {until(no, yes), yes}, {until(no, no), no}, {until(a, yes), yes}, {until(a, no), no}, {until(yes, a), until(yes, a)}, {until(no, a), a}, {until(a, b), until(a, b)}, {until(a, a), until(a, a)}, {until(never, or(b, b)), b}, {until(always, b), until(yes, b)}, {until(a, always), yes}, {until(a, next(never)), no}, {until(or(b, a), and(b, a)), until(or(a, b), and(a, b))},
		{unless(yes, yes), yes}, {unless(yes, no), no}, {unless(no, yes), yes}, {unless(no, no), no}, {unless(a, yes), yes}, {unless(a, no), no}, {unless(yes, a), a}, {unless(no, a), unless(no, a)}, {unless(a, b), unless(a, b)}, {unless(a, a), unless(a, a)}, {unless(always, or(b, b)), b}, {unless(never, b), unless(no, b)}, {unless(a, never), no}, {unless(a, next(always)), yes}, {unless(or(b, a), and(b, a)), unless(or(a, b), and(a, b))},

		{yesterday(0, yes), yesterday(0, yes)}, {yesterday(1, yes), yesterday(1, yes)}, {yesterday(0, no), yesterday(0, no)}, {yesterday(1, no), yesterday(1, no)}, {yesterday(1, and(b, a)), yesterday(1, and(a, b))}, {yesterday(0, never), yesterday(0, no)},
		{since(0, yes, yes), since(0, yes, yes)}, {since(1, no, a), since(1, no, a)}, {since(0, a, yes), since(0, a, yes)}, {since(1, a, no), since(1, a, no)}, {since(0, yes, a), since(0, yes, a)}, {since(1, never, or(b, a)), since(1, no, or(a, b))},
		{trigger(0, yes, yes), trigger(0, yes, yes)}, {trigger(1, no, a), trigger(1, no, a)}, {trigger(0, a, yes), trigger(0, a, yes)}, {trigger(1, a, no), trigger(1, a, no)}, {trigger(0, yes, a), trigger(0, yes, a)}, {trigger(1, always, or(b, a)), trigger(1, yes, or(a, b))},
		{and(next(always), since(0, a, b), a), and(a, since(0, a, b))},
	} {
		g := formula.Canon(x.f)
		if !equal(g, x.want) {
			t.Errorf("%d: %v instead of %v", i, g, x.want)
		}
		if again := formula.Canon(g); !equal(again, g) {
			t.Errorf("%d: the canonical form of %v is %v", i, g, again)
		}
		if !equal(canonical(x.f), x.want) {
			t.Errorf("%d: the test's own definition yields %v", i, canonical(x.f))
		}
	}
}

// kernels returns many loose kernels, small and large ones.
func kernels() []api.Formula {
	return append(forest(51, 1500, 4, true), forest(52, 1500, 8, true)...)
}

// P3.1 (C4), P3.7: Canon is as defined, does not change canonical forms, makes nothing longer, and leaves kernels kernels.
func TestCanon(t *testing.T) {
	changed, wellFormed := 0, 0
	for _, f := range kernels() {
		g := formula.Canon(f)
		if !equal(g, canonical(f)) {
			t.Fatalf("%v: %v", f, g)
		}
		if !equal(formula.Canon(g), g) {
			t.Fatalf("%v: %v is not canonical", f, g)
		}
		if formula.Size(g) > formula.Size(f) {
			t.Fatalf("%v: %v is longer", f, g)
		}
		if formula.IsKernel(f) {
			wellFormed++
			if !formula.IsKernel(g) {
				t.Fatalf("%v: %v is no kernel", f, g)
			}
		}
		if !equal(f, g) {
			changed++
		}
	}
	if changed < 500 || wellFormed < 500 {
		t.Error("too few formulas:", changed, wellFormed)
	}
}

// turned returns a formula in which the arguments of And and Or are reordered, repeated and nested.
func turned(r *rand.Rand, f api.Formula) api.Formula {
	l := mapped(f.Args, func(g api.Formula) api.Formula { return turned(r, g) })
	if f.Op == api.OpAnd || f.Op == api.OpOr {
		l = append(l, l[r.Intn(len(l))])
		r.Shuffle(len(l), func(i, k int) { l[i], l[k] = l[k], l[i] })
		cut := r.Intn(len(l) - 1)
		group := op(f.Op, slices.Clone(l[cut:cut+2])...)
		l = slices.Insert(slices.Delete(l, cut, cut+2), r.Intn(len(l)-1), group)
		if len(l) < 2 {
			l = append(l, l[0])
		}
	}
	f.Args = l
	return f
}

// P3.7: order, repetition and nesting do not matter.
func TestCanonOrder(t *testing.T) {
	r := rand.New(rand.NewSource(53))
	count := 0
	for _, f := range kernels() {
		if len(f.Args) == 0 {
			continue
		}
		want := formula.Canon(f)
		for range 3 {
			g := turned(r, f)
			if len(all(g)) > 400 || depth(g) > 60 {
				continue
			}
			count++
			if got := formula.Canon(g); !equal(got, want) {
				t.Fatalf("%v: %v, and %v: %v", f, want, g, got)
			}
		}
		for i, join := range []func([]api.Formula) api.Formula{formula.And, formula.Or} {
			o := []int{api.OpAnd, api.OpOr}[i]
			l := slices.Clone(f.Args)
			want := join(l)
			if len(l) > 1 && len(all(f)) < 400 && !equal(want, formula.Canon(op(o, l...))) {
				t.Fatalf("%v: %v", l, want)
			}
			r.Shuffle(len(l), func(i, k int) { l[i], l[k] = l[k], l[i] })
			if got := join(append(l, l[0])); !equal(got, want) {
				t.Fatalf("%v: %v instead of %v", l, got, want)
			}
			if got := join([]api.Formula{op(o, l[0], l[0]), join(l[:len(l)/2]), join(l[len(l)/2:])}); len(all(l[0])) < 200 && !equal(got, want) {
				t.Fatalf("%v, nested: %v instead of %v", l, got, want)
			}
		}
	}
	if count < 3000 {
		t.Error("too few formulas:", count)
	}
}

// P3.1 (C4): lists of no formula, of one, and of many.
func TestLists(t *testing.T) {
	list := func(l ...api.Formula) []api.Formula { return l }
	many := different(400)
	for i, x := range []struct {
		l       []api.Formula
		and, or api.Formula
	}{
		{nil, yes, no}, {list(), yes, no}, {list(a), a, a}, {list(yes), yes, yes}, {list(no), no, no}, {list(not(a)), not(a), not(a)}, {list(and(b, a)), and(a, b), and(a, b)}, {list(or(b, a, b)), or(a, b), or(a, b)}, {list(next(yes)), yes, yes},
		{list(a, b), and(a, b), or(a, b)}, {list(b, a), and(a, b), or(a, b)}, {list(a, a), a, a}, {list(a, yes), a, yes}, {list(a, no), no, a}, {list(yes, no), no, yes}, {list(a, b, not(a)), no, yes},
		{list(and(b, a), c), and(a, b, c), or(c, and(a, b))}, {list(or(b, a), c), and(c, or(a, b)), or(a, b, c)}, {list(and(a, not(a)), b), no, b}, {list(or(a, not(a)), b), b, yes},
		{copies(1000, next(a)), next(a), next(a)}, {copies(500, and(b, a)), and(a, b), and(a, b)}, {append(slices.Repeat(many, 2), no), no, api.Formula{}}, {append(slices.Repeat(many, 2), yes), api.Formula{}, yes},
		{append(many, not(many[7])), no, yes}, {many[:399], and(many[:399]...), or(many[:399]...)}, {many, api.Formula{}, api.Formula{}}, {append(many[:399:399], many[:399]...), and(many[:399]...), or(many[:399]...)},
		{list(and(many[:200]...), and(many[200:399]...)), and(many[:399]...), api.Formula{}}, {list(or(many[:200]...), or(many[200:399]...)), api.Formula{}, or(many[:399]...)},
		{list(chain(api.OpNext, 58, a), a), and(a, chain(api.OpNext, 58, a)), or(a, chain(api.OpNext, 58, a))}, {list(chain(api.OpNext, 59, a), a), api.Formula{}, api.Formula{}}, {list(chain(api.OpNext, 59, a)), chain(api.OpNext, 59, a), chain(api.OpNext, 59, a)}, {list(chain(api.OpNext, 59, a), yes), chain(api.OpNext, 59, a), yes}, {list(chain(api.OpNext, 59, yes), a), a, yes},
		{list(a, api.Formula{}), api.Formula{}, api.Formula{}}, {list(no, op(api.OpFinally, a)), api.Formula{}, api.Formula{}}, {list(yes, not(not(a))), api.Formula{}, api.Formula{}}, {list(no, yes, chain(api.OpNext, 60, a)), api.Formula{}, api.Formula{}}, {list(and(a)), api.Formula{}, api.Formula{}},
	} {
		if f := formula.And(x.l); !equal(f, x.and) {
			t.Errorf("%d: And is %v", i, f)
		}
		if f := formula.Or(x.l); !equal(f, x.or) {
			t.Errorf("%d: Or is %v", i, f)
		}
	}
}

// P3.1 (C4): what is no loose kernel, has no negation, canonical form, conjunction or disjunction.
func TestNoLooseKernel(t *testing.T) {
	l := []api.Formula{
		{}, {Op: -1}, op(20, a), op(api.OpImp, a, b), op(api.OpFinally, a), op(api.OpGlobally, a), timed(api.OpWithin, 0, a), timed(api.OpDuring, 2, a), op(api.OpOnce, a), op(api.OpHistorically, a), not(yes), not(no), not(not(a)), not(and(a, b)), op(api.OpNot),
		and(), and(a), or(a), op(api.OpNot, a, b), op(api.OpNext), op(api.OpNext, a, b), op(api.OpUntil, a), op(api.OpRelease, a, b, c), op(api.OpTrue, a), op(api.OpIs, a), op(api.OpYesterday), op(api.OpYesterday, a, b), op(api.OpSince, a), op(api.OpTrigger, a, b, c),
		is("", 0), is("a", 4), is("a", -1), is("input", 1), is("abcdefghijklm", 1), not(is("a", 4)), late(api.OpYesterday, 2, a), late(api.OpSince, -1, a, b), late(api.OpTrigger, 2, a, b), late(api.OpNext, 1, a), late(api.OpNot, 1, a), timed(api.OpNext, 1, a), {Op: api.OpTrue, Name: "a"}, {Op: api.OpIs, Name: "a", Bound: 1}, {Op: api.OpAnd, Name: "a", Args: []api.Formula{a, b}},
		late(api.OpYesterday, 0, next(a)), late(api.OpSince, 0, a, until(a, b)), late(api.OpTrigger, 1, unless(a, b), a), next(late(api.OpYesterday, 0, late(api.OpYesterday, 0, and(a, next(a))))), or(a, next(op(api.OpOnce, a))),
		and(copies(400, a)...), or(and(copies(200, a)...), and(copies(198, a)...)), chain(api.OpNext, 60, a), chain(api.OpNext, 59, not(a)), or(a, chain(api.OpNext, 59, a)), chain(api.OpNext, 1000, yes),
	}
	l = append(l, slices.DeleteFunc(slices.Concat(shapes(), forest(54, 500, 5, false)), isLoose)...)
	for _, f := range l {
		if isLoose(f) || !isZero(formula.Not(f)) || !isZero(formula.Canon(f)) {
			t.Fatalf("%v is taken for a loose kernel", f)
		}
		for _, list := range [][]api.Formula{{f}, {a, f}, {f, a}, {no, f}, {f, yes}} {
			if !isZero(formula.And(list)) || !isZero(formula.Or(list)) {
				t.Fatalf("%v is taken for a loose kernel in %v", f, list)
			}
		}
	}
}

// P3.1 (C4): loose kernels at their limits, and those among formulas of all kinds.
func TestLooseKernels(t *testing.T) {
	l := []api.Formula{
		and(copies(399, a)...), or(and(copies(199, a)...), and(copies(198, a)...)), or(different(399)...), chain(api.OpNext, 59, a), chain(api.OpNext, 58, not(a)), or(a, chain(api.OpNext, 58, a)), is("abcdefghijkl", 0), is("a", 3), late(api.OpYesterday, 0, chain(api.OpYesterday, 58, b)),
	}
	l = append(l, slices.DeleteFunc(slices.Concat(shapes(), forest(55, 500, 5, false)), func(f api.Formula) bool { return !isLoose(f) })...)
	for _, f := range l {
		if isZero(formula.Canon(f)) || !equal(formula.Canon(f), canonical(f)) {
			t.Fatalf("%v is not taken for a loose kernel: %v", f, formula.Canon(f))
		}
		if !equal(formula.And([]api.Formula{f}), canonical(f)) || !equal(formula.Or([]api.Formula{f, no}), canonical(f)) {
			t.Fatalf("%v is not taken for a loose kernel in a list", f)
		}
	}
	if len(l) < 100 {
		t.Error("too few formulas:", len(l))
	}
}

// P3.8: And and Or are commutative, associative and idempotent; true and false are their units and zeros.
func TestLattice(t *testing.T) {
	l := []api.Formula{
		yes, no, a, b, is("a", 0), not(a), not(b), next(a), next(not(a)), and(a, b), or(a, b), and(not(a), b), or(not(a), b), and(a, not(b)), or(not(a), not(b)), and(or(a, b), next(a)), or(and(a, b), next(a)), and(a, or(b, next(b))), until(a, b), unless(a, b), until(yes, a), or(a, until(a, b)), late(api.OpYesterday, 0, a), late(api.OpYesterday, 1, a), late(api.OpSince, 0, no, a), and(b, late(api.OpTrigger, 1, no, a)),
	}
	l = mapped(append(l, forest(56, 15, 4, true)...), formula.Canon)
	for i, join := range []func([]api.Formula) api.Formula{formula.And, formula.Or} {
		unit, zero := yes, no
		if i == 1 {
			unit, zero = no, yes
		}
		two := func(f, g api.Formula) api.Formula { return join([]api.Formula{f, g}) }
		for _, f := range l {
			if !equal(two(f, f), f) || !equal(two(f, unit), f) || !equal(two(unit, f), f) || !equal(two(f, zero), zero) || !equal(two(zero, f), zero) {
				t.Errorf("%d: %v", i, f)
			}
			for _, g := range l {
				fg := two(f, g)
				if !equal(fg, two(g, f)) {
					t.Errorf("%d: not commutative: %v, %v", i, f, g)
				}
				for _, h := range l {
					all := join([]api.Formula{f, g, h})
					if !equal(two(fg, h), all) || !equal(two(f, two(g, h)), all) {
						t.Errorf("%d: not associative: %v, %v, %v", i, f, g, h)
					}
				}
			}
		}
	}
}

// P3.9: Not is compatible with canonical forms, and exchanges And and Or.
func TestDuality(t *testing.T) {
	r := rand.New(rand.NewSource(57))
	l := kernels()
	count := 0
	for i, f := range l {
		n := formula.Canon(formula.Not(f))
		if isZero(n) {
			continue
		}
		count++
		if m := formula.Canon(formula.Not(formula.Canon(f))); !equal(m, n) {
			t.Fatalf("%v: %v, and by its canonical form: %v", f, n, m)
		}
		if g := turned(r, f); isLoose(g) && isLoose(negative(g)) && !equal(formula.Canon(formula.Not(g)), n) {
			t.Fatalf("%v: %v, but not so for %v", f, n, g)
		}
		parts := []api.Formula{f, l[(i+1)%len(l)], l[(i+2)%len(l)]}[:1+i%3]
		nots := mapped(parts, formula.Not)
		both, either := formula.And(parts), formula.Or(parts)
		if slices.ContainsFunc(nots, isZero) || isZero(both) || isZero(either) || isZero(formula.Not(both)) || isZero(formula.Not(either)) {
			continue
		}
		if !equal(formula.Canon(formula.Not(both)), formula.Or(nots)) || !equal(formula.Canon(formula.Not(either)), formula.And(nots)) {
			t.Fatalf("%v: %v, %v", parts, formula.Not(both), formula.Not(either))
		}
	}
	if count < 2000 {
		t.Error("too few formulas:", count)
	}
}
