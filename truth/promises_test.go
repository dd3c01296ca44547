package truth_test

import (
	"slices"
	"testing"

	"foresight/api"
	"foresight/formula"
	"foresight/signal"
	"foresight/truth"
	"foresight/word"
)

// long is a number of positions after which nothing new happens to small formulas on small words.
const long = 150

// row returns the truth at the first positions of a formula that can be evaluated.
func row(t *testing.T, l []api.Signal, f api.Formula, w api.Lasso) []bool {
	t.Helper()
	x := truth.Row(l, f, w, long)
	if len(x) != long {
		t.Fatalf("%v on %v cannot be evaluated", f, w)
	}
	return x
}

// every calls visit with many nodes of formulas of each kind, on many words: with the rows of the node and of its arguments, if all of these can be evaluated.
func every(t *testing.T, seed int64, n int, visit func(l []api.Signal, f api.Formula, w api.Lasso, all []bool, args [][]bool)) {
	t.Helper()
	for i, m := range []maker{makerOf(seed, two, ops), makerOf(seed+1, three, ops), makerOf(seed+2, two, kernelOps), makerOf(seed+3, three, ops)} {
		size := 8
		if i == 2 {
			size = 100
		}
		for _, f := range m.evaluable(n, size) {
			w := m.lasso(5, 5)
		nodes:
			for _, g := range nodesOf(f) {
				if !definedEvaluable(m.signals, g) {
					continue
				}
				var args [][]bool
				for _, h := range g.Args {
					if !definedEvaluable(m.signals, h) {
						continue nodes
					}
					args = append(args, row(t, m.signals, h, w))
				}
				visit(m.signals, g, w, row(t, m.signals, g, w), args)
			}
		}
	}
}

// counter counts formulas by their operators.
type counter map[int]int

// enough expects that each operator has been met often.
func (c counter) enough(t *testing.T, ops ...int) {
	t.Helper()
	for _, op := range ops {
		if c[op] < 50 {
			t.Errorf("only %d formulas with the operator %d", c[op], op)
		}
	}
}

// P8.2: the truth of what looks at the present alone.
func TestPresent(t *testing.T) {
	met := counter{}
	every(t, 90, 300, func(l []api.Signal, f api.Formula, w api.Lasso, all []bool, args [][]bool) {
		met[f.Op]++
		for at, got := range all {
			var want bool
			switch f.Op {
			case api.OpTrue:
				want = true
			case api.OpFalse:
			case api.OpIs:
				want = signal.Value(l, word.At(w, at), signal.Find(l, f.Name)) == f.Val
			case api.OpNot:
				want = !args[0][at]
			case api.OpImp:
				want = args[1][at] || !args[0][at]
			case api.OpAnd, api.OpOr:
				want = f.Op == api.OpAnd
				for _, arg := range args {
					if arg[at] != want {
						want = arg[at]
						break
					}
				}
			default:
				continue
			}
			if got != want {
				t.Fatalf("%v on %v: %v at %d", f, w, got, at)
			}
		}
	})
	met.enough(t, api.OpTrue, api.OpFalse, api.OpIs, api.OpNot, api.OpImp, api.OpAnd, api.OpOr)
}

// P8.3: next, until and release by the next position; what they promise comes true, or fails, at some position.
func TestFuture(t *testing.T) {
	met := counter{}
	every(t, 100, 400, func(l []api.Signal, f api.Formula, w api.Lasso, all []bool, args [][]bool) {
		met[f.Op]++
		for at := range long - 1 {
			ok := true
			switch f.Op {
			case api.OpNext:
				ok = all[at] == args[0][at+1]
			case api.OpUntil:
				ok = all[at] == (args[1][at] || args[0][at] && all[at+1])
				if at < 50 && all[at] {
					ok = ok && slices.Contains(args[1][at:], true)
				}
			case api.OpRelease:
				ok = all[at] == (args[1][at] && (args[0][at] || all[at+1]))
				if at < 50 && !all[at] {
					ok = ok && slices.Contains(args[1][at:], false)
				}
			}
			if !ok {
				t.Fatalf("%v on %v: %v at %d", f, w, all[at], at)
			}
		}
	})
	met.enough(t, api.OpNext, api.OpUntil, api.OpRelease)
}

// P8.4: the past operators by the position before, and by their Val at the first one.
func TestPast(t *testing.T) {
	met := counter{}
	every(t, 110, 400, func(l []api.Signal, f api.Formula, w api.Lasso, all []bool, args [][]bool) {
		met[f.Op*10+f.Val]++
		before := f.Val == 1 || f.Op == api.OpHistorically
		for at, got := range all {
			want := got
			switch f.Op {
			case api.OpYesterday:
				want = before
				before = args[0][at]
			case api.OpSince:
				want = args[1][at] || args[0][at] && before
			case api.OpTrigger:
				want = args[1][at] && (args[0][at] || before)
			case api.OpOnce:
				want = args[0][at] || before
			case api.OpHistorically:
				want = args[0][at] && before
			}
			if got != want {
				t.Fatalf("%v on %v: %v at %d", f, w, got, at)
			}
			if f.Op != api.OpYesterday {
				before = got
			}
		}
	})
	met.enough(t, 10*api.OpOnce, 10*api.OpHistorically)
	for val := range 2 {
		met.enough(t, 10*api.OpYesterday+val, 10*api.OpSince+val, 10*api.OpTrigger+val)
	}
}

// written returns what an abbreviation stands for; within and during as a disjunction and a conjunction of an argument at each tick.
func written(f api.Formula) (api.Formula, bool) {
	yes, no := node(api.OpTrue), node(api.OpFalse)
	switch f.Op {
	case api.OpFinally:
		return node(api.OpUntil, yes, f.Args[0]), true
	case api.OpGlobally:
		return node(api.OpRelease, no, f.Args[0]), true
	case api.OpOnce:
		return valued(api.OpSince, 0, yes, f.Args[0]), true
	case api.OpHistorically:
		return valued(api.OpTrigger, 1, no, f.Args[0]), true
	case api.OpImp:
		return node(api.OpOr, not(f.Args[0]), f.Args[1]), true
	case api.OpWithin, api.OpDuring:
		l := []api.Formula{f.Args[0]}
		for i := range f.Bound {
			l = append(l, nested(api.OpNext, i+1, f.Args[0]))
		}
		if len(l) == 1 {
			return l[0], true
		}
		if f.Op == api.OpWithin {
			return node(api.OpOr, l...), true
		}
		return node(api.OpAnd, l...), true
	}
	return f, false
}

// P8.5: abbreviations are true when what they stand for is.
func TestAbbreviations(t *testing.T) {
	met := counter{}
	every(t, 120, 400, func(l []api.Signal, f api.Formula, w api.Lasso, all []bool, args [][]bool) {
		switch f.Op {
		case api.OpWithin, api.OpDuring:
			for at := range long - f.Bound {
				near := args[0][at : at+f.Bound+1]
				if want := slices.Contains(near, f.Op == api.OpWithin) == (f.Op == api.OpWithin); all[at] != want {
					t.Fatalf("%v on %v: %v at %d", f, w, all[at], at)
				}
			}
		}
		g, ok := written(f)
		if !ok || !definedEvaluable(l, g) {
			return
		}
		met[f.Op]++
		if got := row(t, l, g, w); !slices.Equal(got, all) {
			t.Fatalf("on %v: %v is %s, %v is %s", w, f, bits(all), g, bits(got))
		}
	})
	met.enough(t, api.OpFinally, api.OpGlobally, api.OpOnce, api.OpHistorically, api.OpWithin, api.OpDuring)
}

// others returns lassos of the same word: with more letters in the stem, with several rounds in the loop, and the shortest one.
func others(m maker, w api.Lasso) []api.Lasso {
	l := []api.Lasso{word.Normal(w)}
	for range 3 {
		more := m.Intn(8)
		v := api.Lasso{Stem: word.Prefix(w, len(w.Stem)+more), Loop: word.Suffix(w, len(w.Stem)+more).Loop}
		v.Loop = slices.Repeat(v.Loop, 1+m.Intn(4))
		l = append(l, v)
	}
	return l
}

// P8.6: all lassos of a word have the same truth.
func TestSameWord(t *testing.T) {
	for _, m := range []maker{makerOf(130, two, ops), makerOf(131, three, ops), makerOf(132, two, kernelOps)} {
		for _, f := range m.evaluable(500, 15) {
			w := m.lasso(5, 5)
			want := row(t, m.signals, f, w)
			for _, v := range others(m, w) {
				if !word.Same(v, w) {
					t.Fatalf("%v is not %v", v, w)
				}
				if got := row(t, m.signals, f, v); !slices.Equal(got, want) {
					t.Fatalf("%v: %s on %v, %s on %v", f, bits(want), w, bits(got), v)
				}
				if at := m.Intn(1 << 30); truth.Holds(m.signals, f, v, at) != truth.Holds(m.signals, f, w, at) {
					t.Fatalf("%v: not the same at %d on %v and on %v", f, at, w, v)
				}
			}
		}
	}
	for _, text := range []string{"Y Y r", "!g S (r & Y r)", "F (g & O r)", "G (r -> F[3] g)"} {
		for _, v := range []api.Lasso{{Stem: []int{1, 0, 2, 0}, Loop: []int{3, 0}}, {Stem: []int{1, 0, 2}, Loop: []int{0, 3, 0, 3}}, {Stem: []int{1, 0, 2, 0, 3, 0, 3}, Loop: []int{0, 3}}} {
			if !slices.Equal(row(t, two, parse(t, text), v), row(t, two, parse(t, text), short)) {
				t.Errorf("%s on %v", text, v)
			}
		}
	}
}

// P8.6: without past operators, the truth at a position is that at 0 on the suffix; with one it need not be.
func TestSuffixes(t *testing.T) {
	plain := slices.DeleteFunc(slices.Clone(ops), func(op int) bool { return slices.Contains(pastOps, op) })
	for _, m := range []maker{makerOf(140, two, plain), makerOf(141, three, plain)} {
		for _, f := range m.evaluable(500, 15) {
			w := m.lasso(6, 6)
			for at := range 20 {
				v := word.Suffix(w, at)
				if truth.Holds(m.signals, f, w, at) != truth.Holds(m.signals, f, v, 0) {
					t.Fatalf("%v on %v at %d: otherwise on %v", f, w, at, v)
				}
				if !slices.Equal(truth.Row(m.signals, f, w, 40)[at:], truth.Row(m.signals, f, v, 40-at)) {
					t.Fatalf("%v on %v from %d on: otherwise on %v", f, w, at, v)
				}
			}
		}
	}
	if f := parse(t, "O g"); !truth.Holds(two, f, short, 3) || truth.Holds(two, f, word.Suffix(short, 3), 0) {
		t.Error("the past of a suffix")
	}
}

// P8.6: the truth of a past formula depends on the letters up to the position alone.
func TestSamePrefix(t *testing.T) {
	pasts := slices.DeleteFunc(slices.Clone(ops), func(op int) bool { return slices.Contains(futureOps, op) })
	changed := 0
	for _, m := range []maker{makerOf(150, two, pasts), makerOf(151, three, pasts)} {
		for _, f := range m.evaluable(700, 12) {
			n := m.Intn(20)
			first := m.letters(n + 1)
			v, w := word.Push(first, m.lasso(5, 5)), word.Push(first, m.lasso(5, 5))
			if !slices.Equal(truth.Row(m.signals, f, v, n+1), truth.Row(m.signals, f, w, n+1)) {
				t.Fatalf("%v: not the same on %v and %v up to %d", f, v, w, n)
			}
			if truth.Holds(m.signals, f, v, n) != truth.Holds(m.signals, f, w, n) {
				t.Fatalf("%v: not the same on %v and %v at %d", f, v, w, n)
			}
			if !slices.Equal(row(t, m.signals, f, v), row(t, m.signals, f, w)) {
				changed++
			}
		}
	}
	if changed < 150 {
		t.Error("too few formulas that change after the prefix:", changed)
	}
	early, late := api.Lasso{Stem: []int{1, 0, 0}, Loop: []int{2}}, api.Lasso{Stem: []int{1, 0, 0}, Loop: []int{0}}
	shows(t, two, parse(t, "r | (!g S r)"), early, "111000")
	shows(t, two, parse(t, "r | (!g S r)"), late, "111111")
}

// opposite returns a row in which everything is the other way round.
func opposite(row []bool) []bool {
	row = slices.Clone(row)
	for i := range row {
		row[i] = !row[i]
	}
	return row
}

// P8.7: the kernel of a formula, the canonical form of a kernel and its negation.
func TestKernels(t *testing.T) {
	shortened, negated := 0, 0
	every(t, 160, 400, func(l []api.Signal, f api.Formula, w api.Lasso, all []bool, _ [][]bool) {
		k, e := formula.Kernel(f)
		if e == api.OK && !slices.Equal(row(t, l, k, w), all) {
			t.Fatalf("%v on %v is not as its kernel", f, w)
		}
		if e != api.OK {
			k = f // a loose kernel that is too large for a formula
		}
		c := formula.Canon(k)
		if !slices.Equal(row(t, l, c, w), all) {
			t.Fatalf("%v on %v is not as its canonical form %v", k, w, c)
		}
		if formula.Compare(c, k) != 0 {
			shortened++
		}
		if n := formula.Not(k); n.Op != 0 {
			negated++
			if !slices.Equal(row(t, l, n, w), opposite(all)) {
				t.Fatalf("%v on %v is not the opposite of its negation %v", k, w, n)
			}
		}
		if g := not(f); definedEvaluable(l, g) && !slices.Equal(row(t, l, g, w), opposite(all)) {
			t.Fatalf("%v on %v is not the opposite of not", f, w)
		}
	})
	if shortened < 500 || negated < 2000 {
		t.Error("too few kernels:", shortened, negated)
	}
}

// P8.8: the truth repeats itself with the length of the loop, once as many rounds are over as past operators are nested.
func TestRepetition(t *testing.T) {
	for _, m := range []maker{makerOf(170, two, ops), makerOf(171, three, ops), makerOf(172, two, kernelOps)} {
		for _, f := range m.evaluable(600, 20) {
			w := m.lasso(8, 8)
			p := len(w.Loop)
			all := truth.Row(m.signals, f, w, 500)
			if !slices.Equal(all[300:500-p], all[300+p:]) {
				t.Fatalf("%v on %v: no repetition in %s", f, w, bits(all[300:]))
			}
			for range 5 {
				at := 300 + m.Intn(1<<40)
				if truth.Holds(m.signals, f, w, at) != truth.Holds(m.signals, f, w, at+p*(1+m.Intn(1000))) {
					t.Fatalf("%v on %v: no repetition from %d on", f, w, at)
				}
				near := 300 + (at-300)%p
				if truth.Holds(m.signals, f, w, at) != all[near] {
					t.Fatalf("%v on %v: at %d not as at %d", f, w, at, near)
				}
			}
		}
	}
}

// chain returns a formula with n nested past operators for words whose loop has the letters 23, 22, .. 0: a trigger becomes true, for ever, at the first letter of its own after the formula within it did. The letter of this one stands just behind its own, so that nearly a round passes.
func chain(n int) api.Formula {
	var f api.Formula
	for i := range n {
		letter := i % 24
		here := node(api.OpAnd, is("a", letter%2), is("b", letter/2%3), is("c", letter/6))
		if i == 0 {
			f = valued(api.OpSince, 0, node(api.OpTrue), here)
		} else {
			f = valued(api.OpTrigger, 0, here, f)
		}
	}
	return f
}

// P8.1, P8.8: past formulas that repeat themselves only after very many rounds.
func TestRounds(t *testing.T) {
	w := api.Lasso{Stem: []int{1, 3}}
	for i := range 24 {
		w.Loop = append(w.Loop, 23-i)
	}
	for _, n := range []int{1, 2, 3, 4, 5, 10, 18, 19, 30, 56, 57, 58} {
		f := chain(n)
		first := len(w.Stem) + 23*n
		for _, at := range []int{0, 1, 2, first - 48, first - 24, first - 23, first - 1, first, first + 1, first + 23, first + 24, first + 48, 5000, 1 << 50} {
			if at >= 0 && truth.Holds(three, f, w, at) != (at >= first) {
				t.Errorf("the chain of %d, true from %d on: wrong at %d", n, first, at)
			}
		}
		if first < 440 {
			agrees(t, three, f, w, first+60)
		}
	}
}

// P8.1, P8.8: each of many nested operators takes a further position.
func TestYesterdays(t *testing.T) {
	for _, n := range []int{1, 2, 10, 57, 58, 59} {
		f := nested(api.OpYesterday, n, is("r", 1))
		for at := range 130 {
			if truth.Holds(two, f, api.Lasso{Stem: []int{1}, Loop: []int{0}}, at) != (at == n) {
				t.Errorf("%d times yesterday at %d", n, at)
			}
			if truth.Holds(two, f, api.Lasso{Loop: []int{1}}, at) != (at >= n) {
				t.Errorf("%d times yesterday of what is always true at %d", n, at)
			}
		}
		agrees(t, two, f, api.Lasso{Stem: []int{0, 2, 3}, Loop: []int{2, 0, 1}}, 90)
	}
}
