package formula_test

import (
	"testing"
	"time"

	"foresight/api"
	"foresight/formula"
)

// positive and negative are the table of the chapter, without limits.
func positive(f api.Formula) api.Formula {
	g := func() api.Formula { return positive(f.Args[0]) }
	h := func() api.Formula { return positive(f.Args[1]) }
	switch f.Op {
	case api.OpNot:
		return negative(f.Args[0])
	case api.OpAnd, api.OpOr, api.OpUntil, api.OpRelease, api.OpNext, api.OpYesterday, api.OpSince, api.OpTrigger:
		return late(f.Op, f.Val, mapped(f.Args, positive)...)
	case api.OpImp:
		return or(negative(f.Args[0]), h())
	case api.OpFinally:
		return until(yes, g())
	case api.OpGlobally:
		return unless(no, g())
	case api.OpWithin, api.OpDuring:
		if f.Bound == 0 {
			return g()
		}
		later := next(positive(timed(f.Op, f.Bound-1, f.Args[0])))
		if f.Op == api.OpWithin {
			return or(g(), later)
		}
		return and(g(), later)
	case api.OpOnce:
		return late(api.OpSince, 0, yes, g())
	case api.OpHistorically:
		return late(api.OpTrigger, 1, no, g())
	}
	return f
}

func negative(f api.Formula) api.Formula {
	g := func() api.Formula { return negative(f.Args[0]) }
	switch f.Op {
	case api.OpTrue:
		return no
	case api.OpFalse:
		return yes
	case api.OpIs:
		return not(f)
	case api.OpNot:
		return positive(f.Args[0])
	case api.OpAnd:
		return or(mapped(f.Args, negative)...)
	case api.OpOr:
		return and(mapped(f.Args, negative)...)
	case api.OpImp:
		return and(positive(f.Args[0]), negative(f.Args[1]))
	case api.OpNext:
		return next(g())
	case api.OpUntil:
		return unless(g(), negative(f.Args[1]))
	case api.OpRelease:
		return until(g(), negative(f.Args[1]))
	case api.OpFinally:
		return unless(no, g())
	case api.OpGlobally:
		return until(yes, g())
	case api.OpWithin, api.OpDuring:
		if f.Bound == 0 {
			return g()
		}
		later := next(negative(timed(f.Op, f.Bound-1, f.Args[0])))
		if f.Op == api.OpWithin {
			return and(g(), later)
		}
		return or(g(), later)
	case api.OpYesterday:
		return late(api.OpYesterday, 1-f.Val, g())
	case api.OpSince:
		return late(api.OpTrigger, 1-f.Val, g(), negative(f.Args[1]))
	case api.OpTrigger:
		return late(api.OpSince, 1-f.Val, g(), negative(f.Args[1]))
	case api.OpOnce:
		return late(api.OpTrigger, 1, no, g())
	case api.OpHistorically:
		return late(api.OpSince, 0, yes, g())
	}
	panic("no operator")
}

func mapped(l []api.Formula, change func(api.Formula) api.Formula) []api.Formula {
	var m []api.Formula
	for _, f := range l {
		m = append(m, change(f))
	}
	return m
}

// isLoose is the definition of loose kernels.
func isLoose(f api.Formula) bool {
	if len(all(f)) > 400 || depth(f) > 60 || !wantLayered(f) {
		return false
	}
	for _, g := range all(f) {
		switch g.Op {
		case api.OpImp, api.OpFinally, api.OpGlobally, api.OpWithin, api.OpDuring, api.OpOnce, api.OpHistorically:
			return false
		}
		known := g
		if g.Op == api.OpIs && (g.Name == "c" || len(g.Name) == 3) {
			known.Name = "a" // fieldsRight knows only some names
		}
		if !fieldsRight(known) || g.Op == api.OpNot && g.Args[0].Op != api.OpIs {
			return false
		}
	}
	return true
}

// P3.1: the examples of the chapter.
func TestExamples(t *testing.T) {
	if k, e := formula.Kernel(not(op(api.OpGlobally, a))); e != api.OK || !equal(k, until(yes, not(a))) {
		t.Error("not G a:", k, e)
	}
	if k, e := formula.Kernel(timed(api.OpWithin, 2, a)); e != api.OK || !equal(k, or(a, next(or(a, next(a))))) {
		t.Error("within 2 of a:", k, e)
	}
	if f := formula.Canon(and(and(b, and(a, b)), yes)); !equal(f, and(a, b)) {
		t.Error("(b and (a and b)) and true:", f)
	}
	if f := formula.Or([]api.Formula{a, not(a)}); !equal(f, yes) {
		t.Error("a or not a:", f)
	}
	if f := formula.Not(late(api.OpYesterday, 0, a)); !equal(f, late(api.OpYesterday, 1, not(a))) {
		t.Error("not yesterday a:", f)
	}
}

// P3.1 (C3): each line of the table of positive and negative forms.
func TestKernelTable(t *testing.T) {
	for i, x := range []struct{ f, positive, negative api.Formula }{
		{yes, yes, no},
		{no, no, yes},
		{a, a, not(a)},
		{is("z9_", 3), is("z9_", 3), not(is("z9_", 3))},
		{not(a), not(a), a},
		{not(not(not(a))), not(a), a},
		{and(a, not(b), c), and(a, not(b), c), or(not(a), b, not(c))},
		{or(a, not(b), a), or(a, not(b), a), and(not(a), b, not(a))},
		{op(api.OpImp, a, b), or(not(a), b), and(a, not(b))},
		{op(api.OpImp, op(api.OpImp, a, b), c), or(and(a, not(b)), c), and(or(not(a), b), not(c))},
		{next(a), next(a), next(not(a))},
		{until(a, b), until(a, b), unless(not(a), not(b))},
		{unless(a, b), unless(a, b), until(not(a), not(b))},
		{op(api.OpFinally, a), until(yes, a), unless(no, not(a))},
		{op(api.OpGlobally, a), unless(no, a), until(yes, not(a))},
		{timed(api.OpWithin, 0, a), a, not(a)},
		{timed(api.OpWithin, 1, a), or(a, next(a)), and(not(a), next(not(a)))},
		{timed(api.OpWithin, 2, a), or(a, next(or(a, next(a)))), and(not(a), next(and(not(a), next(not(a)))))},
		{timed(api.OpDuring, 0, not(a)), not(a), a},
		{timed(api.OpDuring, 1, a), and(a, next(a)), or(not(a), next(not(a)))},
		{timed(api.OpDuring, 2, a), and(a, next(and(a, next(a)))), or(not(a), next(or(not(a), next(not(a)))))},
		{late(api.OpYesterday, 0, a), late(api.OpYesterday, 0, a), late(api.OpYesterday, 1, not(a))},
		{late(api.OpYesterday, 1, a), late(api.OpYesterday, 1, a), late(api.OpYesterday, 0, not(a))},
		{late(api.OpSince, 0, a, b), late(api.OpSince, 0, a, b), late(api.OpTrigger, 1, not(a), not(b))},
		{late(api.OpSince, 1, a, b), late(api.OpSince, 1, a, b), late(api.OpTrigger, 0, not(a), not(b))},
		{late(api.OpTrigger, 0, a, b), late(api.OpTrigger, 0, a, b), late(api.OpSince, 1, not(a), not(b))},
		{late(api.OpTrigger, 1, a, b), late(api.OpTrigger, 1, a, b), late(api.OpSince, 0, not(a), not(b))},
		{op(api.OpOnce, a), late(api.OpSince, 0, yes, a), late(api.OpTrigger, 1, no, not(a))},
		{op(api.OpHistorically, a), late(api.OpTrigger, 1, no, a), late(api.OpSince, 0, yes, not(a))},
		{op(api.OpGlobally, op(api.OpImp, a, op(api.OpFinally, b))), unless(no, or(not(a), until(yes, b))), until(yes, and(a, unless(no, not(b))))},
	} {
		if k, e := formula.Kernel(x.f); e != api.OK || !equal(k, x.positive) {
			t.Errorf("%d: the kernel is %v, %v", i, k, e)
		}
		if k, e := formula.Kernel(not(x.f)); e != api.OK || !equal(k, x.negative) {
			t.Errorf("%d: the kernel of the negation is %v, %v", i, k, e)
		}
		if n := formula.Not(x.positive); !equal(n, x.negative) {
			t.Errorf("%d: Not is %v", i, n)
		}
		if n := formula.Not(x.negative); !equal(n, x.positive) {
			t.Errorf("%d: Not of Not is %v", i, n)
		}
	}
}

// P3.1 (C3), P3.4: the kernel is the positive form, if that is within the limits.
func TestKernel(t *testing.T) {
	within, beyond := 0, 0
	for _, f := range forest(37, 4000, 12, false) {
		want := positive(f)
		k, e := formula.Kernel(f)
		if len(all(want)) > 60 || depth(want) > 20 {
			beyond++
			if e != api.ErrLimit || !isZero(k) {
				t.Fatalf("%v: %v, %v instead of ErrLimit", f, k, e)
			}
			continue
		}
		within++
		if e != api.OK || !equal(k, want) {
			t.Fatalf("%v: %v, %v", f, k, e)
		}
		if !formula.IsKernel(k) {
			t.Fatalf("%v: %v is no kernel", f, k)
		}
		if again, e := formula.Kernel(k); e != api.OK || !equal(again, k) {
			t.Fatalf("%v: the kernel of the kernel is %v, %v", f, again, e)
		}
	}
	if within < 1000 || beyond < 100 {
		t.Error("too few formulas:", within, beyond)
	}
}

// P3.4: the kernel of a kernel is itself.
func TestKernelOfKernel(t *testing.T) {
	count := 0
	for _, f := range forest(38, 2000, 6, true) {
		if len(all(f)) > 60 {
			continue
		}
		count++
		if k, e := formula.Kernel(f); e != api.OK || !equal(k, f) {
			t.Fatalf("%v: %v, %v", f, k, e)
		}
	}
	if count < 1000 {
		t.Error("too few kernels:", count)
	}
}

// P3.1 (C3): ErrForm for what is not well-formed or not layered, before ErrLimit.
func TestKernelErrForm(t *testing.T) {
	tooLong := timed(api.OpWithin, 9, timed(api.OpWithin, 9, a))
	for i, f := range []api.Formula{
		{}, op(20, a), op(-1), is("", 0), is("a", 4), is("a", -1), is("true", 0), not(is("A", 0)), op(api.OpNot), op(api.OpNot, a, b), and(a), or(), until(a, op(api.OpUntil, a)), op(api.OpTrue, a), op(api.OpIs, a),
		timed(api.OpWithin, 10, a), timed(api.OpDuring, -1, a), timed(api.OpNext, 1, a), late(api.OpYesterday, 2, a), late(api.OpSince, -1, a, b), late(api.OpHistorically, 1, a), {Op: api.OpAnd, Name: "a", Args: []api.Formula{a, b}},
		late(api.OpYesterday, 0, next(a)), op(api.OpOnce, op(api.OpOnce, timed(api.OpWithin, 0, a))), next(op(api.OpHistorically, until(a, b))), late(api.OpTrigger, 1, unless(a, b), a),
		chain(api.OpNext, 20, a), and(copies(60, a)...), and(tooLong, is("a", 4)), and(is("a", 4), tooLong), and(tooLong, op(api.OpOnce, next(a))),
	} {
		if k, e := formula.Kernel(f); e != api.ErrForm || !isZero(k) {
			t.Errorf("%d: %v, %v", i, k, e)
		}
		if formula.IsKernel(f) {
			t.Errorf("%d is a kernel", i)
		}
	}
	if k, e := formula.Kernel(and(tooLong, a)); e != api.ErrLimit || !isZero(k) {
		t.Fatalf("%v, %v", k, e)
	}
	for _, f := range shapes() {
		if k, e := formula.Kernel(f); (e == api.ErrForm) != (!formula.Valid(f) || !wantLayered(f)) || e != api.OK && !isZero(k) {
			t.Fatalf("%v: %v, %v", f, k, e)
		}
	}
}

// P3.1 (C3): kernels just within the limits, and just beyond them.
func TestKernelLimits(t *testing.T) {
	nots := func(n int) api.Formula { return chain(api.OpNot, n, a) }
	for i, x := range []struct {
		f           api.Formula
		size, depth int
	}{
		{and(copies(59, a)...), 60, 2},
		{op(api.OpImp, a, and(copies(55, a)...)), 59, 3},
		{op(api.OpImp, a, and(copies(56, a)...)), 60, 3},
		{op(api.OpImp, b, and(copies(57, a)...)), 61, 3},
		{not(and(copies(29, a)...)), 59, 3},
		{not(and(append(copies(29, a), no)...)), 60, 3},
		{not(and(append(copies(29, a), not(a))...)), 60, 3},
		{not(and(copies(30, a)...)), 61, 3},
		{op(api.OpFinally, and(copies(57, a)...)), 60, 3},
		{op(api.OpFinally, and(copies(58, a)...)), 61, 3},
		{op(api.OpHistorically, and(copies(57, a)...)), 60, 3},
		{op(api.OpHistorically, and(copies(58, a)...)), 61, 3},
		{timed(api.OpWithin, 1, and(copies(28, a)...)), 60, 4},
		{timed(api.OpWithin, 1, and(copies(29, a)...)), 62, 4},
		{timed(api.OpWithin, 9, a), 28, 19},
		{timed(api.OpWithin, 9, op(api.OpFinally, a)), 48, 20},
		{timed(api.OpWithin, 9, not(a)), 38, 20},
		{timed(api.OpWithin, 9, next(not(a))), 48, 21},
		{timed(api.OpDuring, 9, next(next(a))), 48, 21},
		{timed(api.OpDuring, 9, op(api.OpOnce, a)), 48, 20},
		{timed(api.OpDuring, 9, op(api.OpOnce, not(a))), 58, 21},
		{chain(api.OpNext, 19, a), 20, 20},
		{chain(api.OpNext, 18, not(a)), 20, 20},
		{not(chain(api.OpNext, 18, a)), 20, 20},
		{not(chain(api.OpNext, 18, yes)), 19, 19},
		{not(and(a, chain(api.OpNext, 17, a))), 22, 20},
		{op(api.OpImp, chain(api.OpNext, 18, a), b), 22, 21},
		{op(api.OpImp, chain(api.OpNext, 18, no), b), 21, 20},
		{op(api.OpImp, nots(18), b), 4, 3},
		{nots(19), 2, 2},
		{nots(18), 1, 1},
		{and(chain(api.OpFinally, 17, a), chain(api.OpFinally, 11, a)), 59, 19},
		{and(chain(api.OpFinally, 17, a), chain(api.OpFinally, 11, not(a))), 60, 19},
		{and(chain(api.OpFinally, 17, a), chain(api.OpFinally, 11, a), no), 60, 19},
		{and(chain(api.OpFinally, 17, a), chain(api.OpFinally, 11, not(a)), no), 61, 19},
		{chain(api.OpGlobally, 19, a), 39, 20},
	} {
		if want := positive(x.f); len(all(want)) != x.size || depth(want) != x.depth {
			t.Errorf("%d: the size is %d, the depth %d", i, len(all(want)), depth(want))
		}
		k, e := formula.Kernel(x.f)
		if fits := x.size <= 60 && x.depth <= 20; fits && (e != api.OK || !equal(k, positive(x.f))) || !fits && (e != api.ErrLimit || !isZero(k)) {
			t.Errorf("%d: %v, %v", i, k, e)
		}
	}
}

// P3.1, P1: kernels that would be larger than any memory are refused at once.
func TestKernelHuge(t *testing.T) {
	start := time.Now()
	for _, o := range []int{api.OpWithin, api.OpDuring} {
		f := a
		for range 19 {
			f = timed(o, 9, f)
		}
		if k, e := formula.Kernel(f); e != api.ErrLimit || !isZero(k) {
			t.Error(k, e)
		}
		f = a
		for range 19 {
			f = timed(o, 0, f)
		}
		if k, e := formula.Kernel(f); e != api.OK || !equal(k, a) {
			t.Error(k, e)
		}
	}
	if d := time.Since(start); d > 10*time.Second {
		t.Error("it took", d)
	}
}

// P3.1 (C3): a kernel is a loose kernel that is well-formed.
func TestIsKernel(t *testing.T) {
	for i, x := range []struct {
		f    api.Formula
		want bool
	}{
		{yes, true}, {no, true}, {a, true}, {not(a), true}, {and(a, a), true}, {or(and(a, b), c, yes), true}, {next(a), true}, {until(a, b), true}, {unless(a, b), true}, {late(api.OpYesterday, 1, a), true}, {late(api.OpSince, 0, a, b), true}, {late(api.OpTrigger, 1, a, b), true}, {next(late(api.OpYesterday, 0, or(a, not(a)))), true},
		{api.Formula{}, false}, {not(yes), false}, {not(not(a)), false}, {not(and(a, b)), false}, {op(api.OpImp, a, b), false}, {op(api.OpFinally, a), false}, {op(api.OpGlobally, a), false}, {timed(api.OpWithin, 0, a), false}, {timed(api.OpDuring, 1, a), false}, {op(api.OpOnce, a), false}, {op(api.OpHistorically, a), false},
		{and(a), false}, {or(), false}, {next(op(api.OpFinally, a)), false}, {is("a", 4), false}, {op(api.OpNot), false}, {op(api.OpNot, a, a), false}, {not(is("A", 1)), false}, {op(20), false}, {late(api.OpYesterday, 0, next(a)), false}, {late(api.OpSince, 0, late(api.OpYesterday, 0, until(a, b)), a), false}, {late(api.OpYesterday, 2, a), false}, {late(api.OpUntil, 1, a, b), false},
		{and(copies(59, a)...), true}, {and(copies(60, a)...), false}, {chain(api.OpNext, 19, a), true}, {chain(api.OpNext, 20, a), false}, {chain(api.OpNext, 18, not(a)), true}, {chain(api.OpNext, 19, not(a)), false},
	} {
		if formula.IsKernel(x.f) != x.want {
			t.Errorf("%d: %v", i, !x.want)
		}
	}
	for _, f := range append(append(shapes(), forest(39, 1000, 6, true)...), forest(40, 1000, 6, false)...) {
		if want := isLoose(f) && len(all(f)) <= 60 && depth(f) <= 20; formula.IsKernel(f) != want {
			t.Fatalf("%v: %v", f, !want)
		}
	}
}

// P3.1 (C4), P3.5: Not is the negative form, its own inverse, and the kernel of a negation.
func TestNot(t *testing.T) {
	inverse, kernels := 0, 0
	for _, f := range forest(41, 3000, 8, true) {
		want := negative(f)
		n := formula.Not(f)
		if !isLoose(want) {
			if !isZero(n) {
				t.Fatalf("%v: the negation is not loose", f)
			}
			continue
		}
		inverse++
		if !equal(n, want) {
			t.Fatalf("%v: %v", f, n)
		}
		if back := formula.Not(n); !equal(back, f) {
			t.Fatalf("%v: Not of Not is %v", f, back)
		}
	}
	for _, f := range forest(42, 3000, 6, false) {
		k, e := formula.Kernel(f)
		n, e2 := formula.Kernel(not(f))
		if e != api.OK || e2 != api.OK {
			continue
		}
		kernels++
		if !equal(n, formula.Not(k)) || !equal(k, formula.Not(n)) {
			t.Fatalf("%v: %v, %v", f, n, formula.Not(k))
		}
	}
	if inverse < 1000 || kernels < 1000 {
		t.Error("too few formulas:", inverse, kernels)
	}
}

// P3.1 (C4): Not within the limits of loose kernels, and beyond them.
func TestNotLimits(t *testing.T) {
	for i, x := range []struct {
		f    api.Formula
		fits bool
	}{
		{and(copies(199, a)...), true},
		{and(copies(200, a)...), false},
		{and(append(copies(199, a), yes)...), true},
		{and(append(copies(199, a), not(a))...), true},
		{or(append(copies(199, a), no, no)...), false},
		{and(append(copies(199, a), not(a), not(a))...), false},
		{or(copies(398, no)...), true},
		{or(copies(399, no)...), true},
		{or(copies(400, no)...), false},
		{and(copies(199, not(a))...), true},
		{chain(api.OpNext, 58, a), true},
		{chain(api.OpNext, 59, a), false},
		{chain(api.OpNext, 58, not(a)), true},
		{chain(api.OpNext, 59, yes), true},
		{chain(api.OpNext, 60, yes), false},
		{chain(api.OpNext, 59, not(a)), false},
	} {
		n := formula.Not(x.f)
		if x.fits && !equal(n, negative(x.f)) || !x.fits && !isZero(n) {
			t.Errorf("%d: %v", i, n)
		}
	}
}

// P3.6: what bounded and other operators mean, by other ones.
func TestExpansion(t *testing.T) {
	kernel := func(f api.Formula) (api.Formula, bool) {
		k, e := formula.Kernel(f)
		return k, e == api.OK
	}
	counts := [5]int{}
	check := func(i int, f, g api.Formula, change func(api.Formula) api.Formula) {
		k, ok := kernel(f)
		l, ok2 := kernel(g)
		if !ok || !ok2 {
			return
		}
		counts[i]++
		if !equal(k, change(l)) {
			t.Fatalf("%v: %v, and %v: %v", f, k, g, l)
		}
	}
	same := func(f api.Formula) api.Formula { return f }
	l := forest(43, 1500, 4, false)
	for i, f := range l {
		g := l[(i+1)%len(l)]
		for n := range 9 {
			check(0, timed(api.OpWithin, n+1, f), or(f, next(timed(api.OpWithin, n, f))), same)
			check(1, timed(api.OpDuring, n+1, f), and(f, next(timed(api.OpDuring, n, f))), same)
		}
		check(2, op(api.OpImp, f, g), or(not(f), g), same)
		check(3, op(api.OpFinally, not(f)), op(api.OpGlobally, f), formula.Not)
		check(4, op(api.OpOnce, not(f)), op(api.OpHistorically, f), formula.Not)
	}
	for i, n := range counts {
		if n < 300 {
			t.Error("too few formulas:", i, n)
		}
	}
}
