package formula_test

import (
	"math"
	"math/rand"
	"reflect"
	"slices"
	"strings"
	"testing"
	"time"

	"foresight/api"
	"foresight/formula"
)

func op(o int, args ...api.Formula) api.Formula { return api.Formula{Op: o, Args: args} }

func is(name string, val int) api.Formula {
	return api.Formula{Op: api.OpIs, Name: name, Val: val}
}

// late is a formula with a past operator and a Val.
func late(o, val int, args ...api.Formula) api.Formula {
	return api.Formula{Op: o, Val: val, Args: args}
}

// timed is a formula with a bounded operator.
func timed(o, bound int, f api.Formula) api.Formula {
	return api.Formula{Op: o, Bound: bound, Args: []api.Formula{f}}
}

func not(f api.Formula) api.Formula       { return op(api.OpNot, f) }
func next(f api.Formula) api.Formula      { return op(api.OpNext, f) }
func and(l ...api.Formula) api.Formula    { return op(api.OpAnd, l...) }
func or(l ...api.Formula) api.Formula     { return op(api.OpOr, l...) }
func until(f, g api.Formula) api.Formula  { return op(api.OpUntil, f, g) }
func unless(f, g api.Formula) api.Formula { return op(api.OpRelease, f, g) }

var yes, no, a, b, c = op(api.OpTrue), op(api.OpFalse), is("a", 1), is("b", 1), is("c", 1)

// chain returns n operators, one within the other, around a formula.
func chain(o, n int, f api.Formula) api.Formula {
	for range n {
		f = op(o, f)
	}
	return f
}

// copies returns n times the same formula.
func copies(n int, f api.Formula) []api.Formula { return slices.Repeat([]api.Formula{f}, n) }

// different returns n literals, no two of which are equal or the negation of each other, in the order of Compare.
func different(n int) []api.Formula {
	var l []api.Formula
	for i := range n {
		l = append(l, is("s"+string(rune('a'+i/26))+string(rune('a'+i%26)), i%4))
	}
	return l
}

// equal compares formulas field by field, without the help of Compare.
func equal(f, g api.Formula) bool {
	if f.Op != g.Op || f.Name != g.Name || f.Val != g.Val || f.Bound != g.Bound || len(f.Args) != len(g.Args) {
		return false
	}
	for i := range f.Args {
		if !equal(f.Args[i], g.Args[i]) {
			return false
		}
	}
	return true
}

// isZero reports whether a formula is the zero formula.
func isZero(f api.Formula) bool { return equal(f, api.Formula{}) }

func clone(f api.Formula) api.Formula {
	f.Args = slices.Clone(f.Args)
	for i, g := range f.Args {
		f.Args[i] = clone(g)
	}
	return f
}

// all returns the nodes of a formula.
func all(f api.Formula) []api.Formula {
	l := []api.Formula{f}
	for _, g := range f.Args {
		l = append(l, all(g)...)
	}
	return l
}

func depth(f api.Formula) int {
	d := 0
	for _, g := range f.Args {
		d = max(d, depth(g))
	}
	return d + 1
}

var pastOps = []int{api.OpYesterday, api.OpSince, api.OpTrigger, api.OpOnce, api.OpHistorically}
var futureOps = []int{api.OpNext, api.OpUntil, api.OpRelease, api.OpFinally, api.OpGlobally, api.OpWithin, api.OpDuring}

// wantPast and wantLayered are the definitions of the chapter.
func wantPast(f api.Formula) bool {
	return !slices.ContainsFunc(all(f), func(g api.Formula) bool { return slices.Contains(futureOps, g.Op) })
}

func wantLayered(f api.Formula) bool {
	for _, g := range all(f) {
		for _, h := range g.Args {
			if slices.Contains(pastOps, g.Op) && !wantPast(h) {
				return false
			}
		}
	}
	return true
}

// fieldsRight is the table of the chapter, for one node.
func fieldsRight(f api.Formula) bool {
	args := len(f.Args)
	switch f.Op {
	case api.OpTrue, api.OpFalse:
		return args == 0 && f.Name == "" && f.Val == 0 && f.Bound == 0
	case api.OpIs:
		return args == 0 && slices.Contains([]string{"a", "b", "z9_", "abcdefghijkl"}, f.Name) && f.Val >= 0 && f.Val <= 3 && f.Bound == 0
	case api.OpNot, api.OpNext, api.OpFinally, api.OpGlobally, api.OpOnce, api.OpHistorically:
		return args == 1 && f.Name == "" && f.Val == 0 && f.Bound == 0
	case api.OpAnd, api.OpOr:
		return args >= 2 && f.Name == "" && f.Val == 0 && f.Bound == 0
	case api.OpImp, api.OpUntil, api.OpRelease:
		return args == 2 && f.Name == "" && f.Val == 0 && f.Bound == 0
	case api.OpWithin, api.OpDuring:
		return args == 1 && f.Name == "" && f.Val == 0 && f.Bound >= 0 && f.Bound <= 9
	case api.OpYesterday:
		return args == 1 && f.Name == "" && (f.Val == 0 || f.Val == 1) && f.Bound == 0
	case api.OpSince, api.OpTrigger:
		return args == 2 && f.Name == "" && (f.Val == 0 || f.Val == 1) && f.Bound == 0
	}
	return false
}

// single yields formulas of one level with all operators and many fields, right and wrong ones.
func single(yield func(api.Formula) bool) {
	for o := -1; o <= 21; o++ {
		for _, name := range []string{"", "a", "z9_", "abcdefghijkl", "abcdefghijklm", "A", "true", "9a"} {
			for _, val := range []int{math.MinInt, -1, 0, 1, 2, 3, 4, math.MaxInt} {
				for _, bound := range []int{math.MinInt, -1, 0, 1, 9, 10, math.MaxInt} {
					for _, args := range []int{0, 1, 2, 3, 7} {
						if !yield(api.Formula{Op: o, Name: name, Val: val, Bound: bound, Args: copies(args, a)}) {
							return
						}
					}
				}
			}
		}
	}
}

// shape returns a random formula; no kind of field is always right.
func shape(r *rand.Rand, levels int) api.Formula {
	f := api.Formula{Op: r.Intn(23) - 1}
	if r.Intn(3) == 0 || f.Op == api.OpIs {
		f.Name = []string{"", "a", "b", "z9_", "true", "A"}[r.Intn(6)]
	}
	if r.Intn(3) == 0 {
		f.Val, f.Bound = r.Intn(7)-1, r.Intn(13)-1
	}
	if levels > 0 {
		for range r.Intn(4) {
			f.Args = append(f.Args, shape(r, levels-1))
		}
	}
	return f
}

// shapes returns many random formulas, always the same.
func shapes() []api.Formula {
	r := rand.New(rand.NewSource(3))
	var l []api.Formula
	for range 3000 {
		l = append(l, shape(r, r.Intn(4)))
	}
	return l
}

// grown returns a random well-formed layered formula with a limited depth; only past ones if past is true, only loose kernels if kernel is true.
func grown(r *rand.Rand, levels int, past, kernel bool) api.Formula {
	if levels <= 1 || r.Intn(6) == 0 {
		leaf := []api.Formula{yes, no, a, is("a", 0), b, is("b", 3), c, not(a), not(b), not(c)}[r.Intn(10)]
		if levels <= 1 && leaf.Op == api.OpNot {
			return leaf.Args[0]
		}
		return leaf
	}
	sub := func(past bool) api.Formula { return grown(r, levels-1, past, kernel) }
	pair := func(o, val int, past bool) api.Formula { return late(o, val, sub(past), sub(past)) }
	choices := 11
	if past {
		choices = 7
	}
	if kernel {
		choices -= 3
	}
	n := r.Intn(choices)
	if kernel {
		n += 3
	}
	switch n {
	case 0:
		return not(sub(past))
	case 1:
		return pair(api.OpImp, 0, past)
	case 2:
		return op([]int{api.OpOnce, api.OpHistorically}[r.Intn(2)], sub(true))
	case 3, 4:
		l := []api.Formula{sub(past), sub(past)}
		for r.Intn(3) == 0 {
			l = append(l, sub(past))
		}
		return op([]int{api.OpAnd, api.OpOr}[n-3], l...)
	case 5:
		return late(api.OpYesterday, r.Intn(2), sub(true))
	case 6:
		return pair([]int{api.OpSince, api.OpTrigger}[r.Intn(2)], r.Intn(2), true)
	case 7, 8:
		return pair([]int{api.OpUntil, api.OpRelease}[n-7], 0, false)
	case 9:
		return next(sub(false))
	}
	if kernel {
		return next(sub(false))
	}
	switch r.Intn(3) {
	case 0:
		return op([]int{api.OpFinally, api.OpGlobally}[r.Intn(2)], sub(false))
	default:
		return timed([]int{api.OpWithin, api.OpDuring}[r.Intn(2)], r.Intn(1+r.Intn(10)), sub(false))
	}
}

// forest returns many random well-formed layered formulas, or loose kernels, always the same.
func forest(seed int64, n, levels int, kernel bool) []api.Formula {
	r := rand.New(rand.NewSource(seed))
	var l []api.Formula
	for len(l) < n {
		f := grown(r, 1+r.Intn(levels), r.Intn(4) == 0, kernel)
		if kernel && len(all(f)) <= 400 || !kernel && len(all(f)) <= 60 {
			l = append(l, f)
		}
	}
	return l
}

// slots returns where the elements of all Args of a formula are in memory, also those beyond the length.
func slots(f api.Formula) []*api.Formula {
	var l []*api.Formula
	for _, g := range f.Args {
		l = append(l, slots(g)...)
	}
	whole := f.Args[:cap(f.Args)]
	for i := range whole {
		l = append(l, &whole[i])
	}
	return l
}

// P3.1 (C1): every node has the fields of its operator, and no other ones.
func TestValidFields(t *testing.T) {
	accepted := 0
	for f := range single {
		want := fieldsRight(f)
		if want {
			accepted++
		}
		if formula.Valid(f) != want {
			t.Fatalf("%v: %v", f, !want)
		}
		if formula.Valid(or(b, not(f))) != want || formula.Valid(until(f, b)) != want {
			t.Fatalf("%v within another one: %v", f, !want)
		}
	}
	if accepted < 40 {
		t.Error("only", accepted, "formulas are right")
	}
	for _, f := range shapes() {
		if want := !slices.ContainsFunc(all(f), func(g api.Formula) bool { return !fieldsRight(g) }); formula.Valid(f) != want {
			t.Fatalf("%v: %v", f, !want)
		}
	}
	for _, f := range forest(31, 2000, 5, false) {
		if !formula.Valid(f) {
			t.Errorf("refused: %v", f)
		}
	}
}

// P3.1 (C1): the size is at most 60, the depth at most 20.
func TestValidLimits(t *testing.T) {
	for i, x := range []struct {
		f     api.Formula
		valid bool
	}{
		{and(copies(59, a)...), true},
		{and(copies(60, a)...), false},
		{or(and(copies(28, a)...), and(copies(29, a)...)), true},
		{or(and(copies(29, a)...), and(copies(29, a)...)), false},
		{or(a, and(copies(57, a)...)), true},
		{or(and(copies(58, a)...), a), false},
		{until(chain(api.OpNext, 18, a), chain(api.OpNext, 18, a)), true},
		{chain(api.OpNot, 19, a), true},
		{chain(api.OpNot, 20, a), false},
		{chain(api.OpNext, 19, yes), true},
		{chain(api.OpNext, 20, yes), false},
		{or(a, chain(api.OpNext, 18, a), a), true},
		{or(a, chain(api.OpNext, 19, a), a), false},
		{or(a, a, chain(api.OpOnce, 20, a)), false},
		{and(copies(1000000, a)...), false},
		{chain(api.OpNext, 60000, a), false},
	} {
		if formula.Valid(x.f) != x.valid {
			t.Errorf("%d: %v", i, !x.valid)
		}
	}
}

// P3.1 (C1): Size, Past, Layered and Names are specified for all formulas.
func TestMeasures(t *testing.T) {
	for _, f := range append(shapes(), slices.Collect(single)...) {
		names := map[string]bool{}
		for _, g := range all(f) {
			if g.Op == api.OpIs {
				names[g.Name] = true
			}
		}
		if formula.Size(f) != len(all(f)) {
			t.Fatalf("%v: size %d", f, formula.Size(f))
		}
		if formula.Past(f) != wantPast(f) {
			t.Fatalf("%v: past %v", f, formula.Past(f))
		}
		if formula.Layered(f) != wantLayered(f) {
			t.Fatalf("%v: layered %v", f, formula.Layered(f))
		}
		got := formula.Names(f)
		if !slices.IsSorted(got) || len(got) != len(names) {
			t.Fatalf("%v: names %q", f, got)
		}
		for _, n := range got {
			if !names[n] {
				t.Fatalf("%v: names %q", f, got)
			}
		}
	}
}

// P3.1 (C1): which operators are of the past and of the future, and where they stand.
func TestTenses(t *testing.T) {
	for o := -1; o <= 21; o++ {
		past, future := slices.Contains(pastOps, o), slices.Contains(futureOps, o)
		if formula.Past(op(o, a)) != !future || formula.Past(op(o, next(a))) || formula.Past(op(o)) != !future {
			t.Error("past", o)
		}
		if !formula.Layered(op(o, a)) || formula.Layered(op(o, next(a))) != !past || formula.Layered(op(o, a, b, and(a, not(next(a))))) != !past {
			t.Error("layered", o)
		}
		if formula.Layered(op(api.OpOnce, op(o, a))) != !future || formula.Layered(op(api.OpYesterday, or(a, op(o)))) != !future {
			t.Error("layered within", o)
		}
	}
	for i, x := range []struct {
		f             api.Formula
		past, layered bool
	}{
		{api.Formula{}, true, true},
		{op(api.OpTrue, next(a)), false, true},
		{op(api.OpIs, next(a)), false, true},
		{op(99, op(-7, op(api.OpSince, a, a, a, next(a)))), false, false},
		{op(api.OpSince, next(a)), false, false},
		{op(api.OpHistorically), true, true},
		{next(op(api.OpOnce, op(api.OpYesterday, a))), false, true},
		{and(op(api.OpOnce, a), next(a)), false, true},
		{and(next(a), op(api.OpOnce, a)), false, true},
		{op(api.OpOnce, op(api.OpOnce, op(api.OpFalse, op(api.OpNext)))), false, false},
	} {
		if formula.Past(x.f) != x.past || formula.Layered(x.f) != x.layered {
			t.Error(i, formula.Past(x.f), formula.Layered(x.f))
		}
	}
}

// P3.1 (C1): the Names of nodes with OpIs, whatever they are, and of no other ones.
func TestNames(t *testing.T) {
	for i, x := range []struct {
		f    api.Formula
		want []string
	}{
		{api.Formula{}, nil},
		{yes, nil},
		{a, []string{"a"}},
		{or(is("b", 0), is("a", 3), is("b", 1), not(is("b", 0))), []string{"a", "b"}},
		{or(is("b", 7), is("", 0), is("B", 0), is("true", -1), is("a", 0), is("\xff", 0)), []string{"", "B", "a", "b", "true", "\xff"}},
		{is("abcdefghijklm", 1), []string{"abcdefghijklm"}},
		{api.Formula{Op: api.OpNot, Name: "x", Args: []api.Formula{a}}, []string{"a"}},
		{api.Formula{Op: 77, Name: "x"}, nil},
		{api.Formula{Op: api.OpIs, Name: "x", Args: []api.Formula{is("w", 1)}}, []string{"w", "x"}},
		{api.Formula{Op: api.OpTrue, Args: []api.Formula{is("z", 1), is("aa", 1)}}, []string{"aa", "z"}},
	} {
		if got := formula.Names(x.f); !slices.Equal(got, x.want) {
			t.Errorf("%d: %q", i, got)
		}
	}
}

// P3.1, P1: formulas that are wide or deep beyond all limits.
func TestLarge(t *testing.T) {
	start := time.Now()
	deep := chain(api.OpOnce, 65000, a)
	wide := and(copies(300000, b)...)
	if formula.Size(deep) != 65001 || formula.Size(wide) != 300001 {
		t.Error("size")
	}
	if !formula.Past(deep) || !formula.Layered(deep) || formula.Layered(chain(api.OpOnce, 65000, next(a))) || !formula.Layered(wide) {
		t.Error("layered")
	}
	if !slices.Equal(formula.Names(deep), []string{"a"}) || !slices.Equal(formula.Names(wide), []string{"b"}) {
		t.Error("names")
	}
	if formula.Compare(deep, clone(deep)) != 0 || formula.Compare(deep, chain(api.OpOnce, 65000, b)) != -1 || formula.Compare(and(copies(300000, c)...), wide) != 1 {
		t.Error("compare")
	}
	huge := a // 2^100 - 1 nodes, more than there is time for
	for range 99 {
		huge = and(huge, huge)
	}
	for _, f := range []api.Formula{deep, wide, huge} {
		k, e := formula.Kernel(f)
		if formula.Valid(f) || formula.IsKernel(f) || e != api.ErrForm || !isZero(k) {
			t.Error("well-formed")
		}
		if !isZero(formula.Not(f)) || !isZero(formula.Canon(f)) || !isZero(formula.And([]api.Formula{a, f})) || !isZero(formula.Or([]api.Formula{f, a})) {
			t.Error("loose")
		}
	}
	if d := time.Since(start); d > 20*time.Second {
		t.Error("it took", d)
	}
}

// key describes a formula by a list whose lexicographic order is the one that the chapter describes: its fields stand before its arguments.
func key(f api.Formula) []any {
	l := []any{f.Op, f.Name, f.Val, f.Bound, len(f.Args)}
	for _, g := range f.Args {
		l = append(l, key(g)...)
	}
	return l
}

func compareKeys(k, l []any) int {
	for i := range k {
		c := 0
		switch x := k[i].(type) {
		case int:
			if y := l[i].(int); x < y {
				c = -1
			} else if x > y {
				c = 1
			}
		case string:
			c = strings.Compare(x, l[i].(string))
		}
		if c != 0 {
			return c
		}
	}
	return 0
}

// mixed returns formulas of all kinds, some of them equal, some different in one field only.
func mixed() []api.Formula {
	l := []api.Formula{
		{}, {Args: []api.Formula{}}, {Op: -1}, {Op: math.MinInt}, {Op: math.MaxInt}, {Name: "a"}, {Val: -1}, {Bound: -1}, {Val: math.MaxInt}, {Val: math.MinInt},
		yes, no, a, b, is("a", 0), is("aa", 0), is("", 0), is("\xff", 0), is("A", 1), not(a), not(b), next(a), next(next(a)), next(yes),
		{Op: api.OpIs, Name: "a", Val: 1, Bound: 1}, {Op: api.OpIs, Name: "a", Val: 1, Bound: 2, Args: []api.Formula{a}}, {Op: api.OpIs, Name: "a", Val: 1, Args: []api.Formula{no, no}}, {Op: api.OpIs, Name: "a", Val: 2, Bound: -1},
		and(a, b), and(b, a), and(a, c), and(a, a, a), and(a), and(b), and(and(a, b), c), and(a, and(b, c)), or(a, b), or(no, no, no), and(next(a), a),
		until(a, b), until(b, a), unless(a, b), late(api.OpSince, 0, a, b), late(api.OpSince, 1, a, b), late(api.OpSince, 0, b, a), late(api.OpYesterday, 1, a),
		timed(api.OpWithin, 2, a), timed(api.OpWithin, 9, a), timed(api.OpWithin, 10, a), timed(api.OpDuring, 1, a), op(api.OpOnce, a), op(api.OpOnce, b), op(20, a),
	}
	l = append(l, shapes()[:60]...)
	l = append(l, forest(32, 30, 3, false)...)
	return append(l, clone(l[20]), clone(l[36]), clone(l[45]), clone(l[70]), clone(l[110]))
}

// P3.1 (C2), P3.2: Compare is the order that is described, and a total one.
func TestCompare(t *testing.T) {
	l := mixed()
	order := make([][]int, len(l))
	for i, f := range l {
		order[i] = make([]int, len(l))
		for k, g := range l {
			n := formula.Compare(f, g)
			order[i][k] = n
			if want := compareKeys(key(f), key(g)); n != want {
				t.Errorf("Compare of %v and %v: %d", f, g, n)
			}
			if (n == 0) != equal(f, g) {
				t.Fatalf("%v and %v: %d", f, g, n)
			}
		}
	}
	for i := range l {
		for k := range l {
			if order[i][k] != -order[k][i] {
				t.Fatalf("not antisymmetric: %v, %v", l[i], l[k])
			}
			for m := range l {
				if order[i][k] <= 0 && order[k][m] <= 0 && order[i][m] > 0 {
					t.Fatalf("not transitive: %v, %v, %v", l[i], l[k], l[m])
				}
			}
		}
	}
}

// P3.2: each field counts before the ones after it.
func TestCompareFields(t *testing.T) {
	f := func(o int, name string, val, bound int, args ...api.Formula) api.Formula {
		return api.Formula{Op: o, Name: name, Val: val, Bound: bound, Args: args}
	}
	for i, x := range [][2]api.Formula{
		{f(1, "z", 9, 9, b, b), f(2, "", 0, 0)},
		{f(1, "", 9, 9, b, b), f(1, "a", 0, 0)},
		{f(1, "b", 9, 9), f(1, "ba", 0, 0)},
		{f(1, "Z", 9, 9), f(1, "a", 0, 0)},
		{f(1, "a", -2, 9, b, b), f(1, "a", -1, 0)},
		{f(1, "a", 1, 2, b, b), f(1, "a", 1, 3)},
		{f(1, "a", 1, 2, c), f(1, "a", 1, 2, a, a)},
		{f(1, "a", 1, 2, a, c), f(1, "a", 1, 2, b, a)},
		{f(1, "a", 1, 2, a, b), f(1, "a", 1, 2, a, c)},
		{f(1, "a", 1, 2, a, f(1, "", 0, 0, a)), f(1, "a", 1, 2, a, f(1, "", 0, 0, b))},
		{f(math.MinInt, "", 0, 0), f(math.MaxInt, "", 0, 0)},
		{f(1, "", math.MinInt, 0), f(1, "", math.MaxInt, 0)},
		{f(1, "", 0, math.MinInt), f(1, "", 0, math.MaxInt)},
	} {
		if formula.Compare(x[0], x[1]) != -1 || formula.Compare(x[1], x[0]) != 1 || formula.Compare(x[0], x[0]) != 0 || formula.Compare(x[1], clone(x[1])) != 0 {
			t.Error(i, formula.Compare(x[0], x[1]), formula.Compare(x[1], x[0]))
		}
	}
	if formula.Compare(api.Formula{Op: 1, Args: []api.Formula{}}, api.Formula{Op: 1}) != 0 {
		t.Error("nil and empty Args are different")
	}
}

// P3.3: past formulas are layered; what is well-formed, past, layered or a loose kernel has such arguments; sizes add up.
func TestParts(t *testing.T) {
	l := append(shapes(), forest(33, 1500, 5, false)...)
	l = append(l, forest(34, 1500, 5, true)...)
	counts := [4]int{}
	for _, f := range l {
		if formula.Past(f) && !formula.Layered(f) {
			t.Fatalf("past, but not layered: %v", f)
		}
		size := 1
		for _, g := range f.Args {
			size += formula.Size(g)
			for i, has := range []func(api.Formula) bool{formula.Valid, formula.Past, formula.Layered, isLoose} {
				if has(f) {
					counts[i]++
				}
				if has(f) && !has(g) {
					t.Errorf("%d: %v is, but not its argument %v", i, f, g)
				}
			}
		}
		if formula.Size(f) != size {
			t.Fatalf("%v: size %d", f, formula.Size(f))
		}
	}
	if slices.Min(counts[:]) < 1000 {
		t.Error("too few formulas:", counts)
	}
}

// P3, and the rule that arguments are not modified and results share no memory.
func TestIndependence(t *testing.T) {
	l := append(forest(35, 500, 5, true), yes, a, not(a), and(a, b), next(next(a)), chain(api.OpNext, 30, a), and(different(30)...))
	l = append(l, forest(36, 300, 5, false)...)
	l = append(l, timed(api.OpWithin, 4, or(a, b)), timed(api.OpDuring, 3, not(and(a, b))), op(api.OpImp, and(a, b), or(b, c)))
	same := or(a, next(b))
	l = append(l, and(same, next(same), same))
	for _, f := range l {
		before := clone(f)
		results := func() []api.Formula {
			k, _ := formula.Kernel(f)
			return []api.Formula{k, formula.Not(f), formula.Canon(f), formula.And([]api.Formula{f, a, f}), formula.Or([]api.Formula{f}), formula.And([]api.Formula{f, or(a, b)})}
		}
		first, second := results(), results()
		if !equal(f, before) {
			t.Fatalf("%v was modified", before)
		}
		if !reflect.DeepEqual(first, second) {
			t.Fatalf("%v: different results", f)
		}
		for i, g := range first {
			places := append(slots(g), slots(second[i])...)
			seen := map[*api.Formula]bool{}
			for _, p := range slots(f) {
				seen[p] = true
			}
			for _, p := range places {
				if seen[p] {
					t.Errorf("%d: memory of %v is shared", i, f)
				}
				seen[p] = true
			}
		}
	}
	list := []api.Formula{c, or(b, a), not(b), a, yes, c}
	before := clone(and(list...)).Args
	formula.And(list)
	formula.Or(list)
	if !equal(and(list...), and(before...)) {
		t.Error("a list was modified:", list)
	}
	names := formula.Names(or(b, a))
	names[0] = "z"
	if !slices.Equal(formula.Names(or(b, a)), []string{"a", "b"}) {
		t.Error("names are shared")
	}
}
