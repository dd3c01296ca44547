package truth_test

import (
	"fmt"
	"math"
	"slices"
	"strings"
	"testing"

	"foresight/api"
	"foresight/formula"
	"foresight/signal"
	"foresight/truth"
	"foresight/word"
)

// agrees compares the truth at the first n positions, of Row and of Holds, with the definition.
func agrees(t *testing.T, l []api.Signal, f api.Formula, w api.Lasso, n int) {
	t.Helper()
	want := definedRow(l, f, w, n)
	row := truth.Row(l, f, w, n)
	if !slices.Equal(row, want) {
		t.Fatalf("%.300s on %v: %s instead of %s", fmt.Sprint(f), w, bits(row), bits(want))
	}
	for _, at := range []int{0, n / 3, n - 1} {
		if truth.Holds(l, f, w, at) != want[at] {
			t.Fatalf("%.300s on %v: not %v at %d", fmt.Sprint(f), w, want[at], at)
		}
	}
}

// shows compares the truth at the first positions with a text of 0 and 1.
func shows(t *testing.T, l []api.Signal, f api.Formula, w api.Lasso, want string) {
	t.Helper()
	if got := bits(truth.Row(l, f, w, len(want))); got != want {
		t.Errorf("%.300s on %v: %s instead of %s", fmt.Sprint(f), w, got, want)
	}
	if got := bits(definedRow(l, f, w, len(want))); got != want {
		t.Errorf("%.300s on %v: the definition says %s instead of %s", fmt.Sprint(f), w, got, want)
	}
	for at := range want {
		if truth.Holds(l, f, w, at) != (want[at] == '1') {
			t.Errorf("%.300s on %v: not %c at %d", fmt.Sprint(f), w, want[at], at)
		}
	}
}

// refuses expects that nothing is said of the truth of a formula.
func refuses(t *testing.T, l []api.Signal, f api.Formula, w api.Lasso) {
	t.Helper()
	for at := range 4 {
		if truth.Holds(l, f, w, at) {
			t.Errorf("%v, %.200s, %v: true at %d", l, fmt.Sprint(f), w, at)
		}
	}
	for n := range 4 {
		if row := truth.Row(l, f, w, n); len(row) > 0 {
			t.Errorf("%v, %.200s, %v: %s of %d", l, fmt.Sprint(f), w, bits(row), n)
		}
	}
}

// short has a Stem and a Loop; its letters are r + 2 g.
var short = api.Lasso{Stem: []int{1, 0, 2}, Loop: []int{0, 3}}

// P8.1: the chapter's examples.
func TestExamples(t *testing.T) {
	for _, x := range []struct {
		text string
		at   int
		want bool
	}{
		{"r", 0, true}, {"g", 2, true},
		{"!r U g", 1, true}, {"!r U g", 0, false},
		{"G F r", 5, true},
		{"O g", 1, false}, {"O g", 2, true}, {"O g", 9, true},
		{"Y r", 0, false}, {"Z r", 0, true}, {"Y r", 1, true},
		{"F[1] g", 1, true},
		{"G (r -> g)", 1, true},
	} {
		if got := truth.Holds(two, parse(t, x.text), short, x.at); got != x.want {
			t.Errorf("%s at %d: %v", x.text, x.at, got)
		}
	}
}

// P8.1: rows of all operators that were found by hand.
func TestRows(t *testing.T) {
	for text, want := range map[string]string{
		"true": "111111111", "false": "000000000",
		"r": "100010101", "r = 0": "011101010", "g": "001010101", "g = 0": "110101010",
		"!r": "011101010", "!!r": "100010101",
		"r & g": "000010101", "r & g & !g": "000000000", "r | g": "101010101", "!r & !g": "010101010", "false | r | false": "100010101",
		"r -> g": "011111111", "g -> r": "110111111", "g -> false": "110101010", "true -> r": "100010101",
		"X r": "000101010", "X g": "010101010", "X X r": "001010101", "X X X X g": "101010101",
		"!r U g": "011111111", "r U g": "001010101", "true U r": "111111111", "false U r": "100010101", "r U (r & !g)": "100000000", "!g U g": "111111111",
		"r R !g": "100000000", "false R !r": "000000000", "true R r": "100010101", "g R !r": "011000000", "g R (!r | g)": "011111111",
		"F r": "111111111", "F (r & !g)": "100000000", "F (g & !r)": "111000000",
		"G g": "000000000", "G (r -> g)": "011111111", "G (g -> r)": "000111111", "G F r": "111111111", "F G (r -> g)": "111111111", "F G !g": "000000000",
		"F[0] g": "001010101", "F[1] g": "011111111", "F[2] g": "111111111", "F[5] (g & !r)": "111000000", "F[1] (g & !r)": "011000000",
		"G[0] !r": "011101010", "G[1] !r": "011000000", "G[2] !r": "010000000", "G[3] !r": "000000000", "G[5] (g -> r)": "000111111",
		"Y r": "010001010", "Z r": "110001010", "Y true": "011111111", "Z false": "100000000", "Y Y r": "001000101", "Z Y r": "101000101", "Y Z r": "011000101", "Z Z Z false": "111000000",
		"!g S r": "110011111", "!r S g": "001111111", "!g S[1] (r & g)": "110011111", "!g S[0] (r & g)": "000011111", "false S[1] g": "001010101", "r S[1] g": "101010101", "true S[1] false": "111111111", "true S[0] false": "000000000",
		"r T[1] !g": "110000000", "g T[0] !r": "001100000", "g T[1] !r": "001100000", "g T[1] true": "111111111", "g T[0] true": "001111111", "false T[1] !g": "110000000", "false T[0] !g": "000000000", "true T[0] r": "100010101",
		"O g": "001111111", "O r": "111111111", "O (r & g)": "000011111", "O false": "000000000",
		"H !g": "110000000", "H r": "100000000", "H true": "111111111", "H !(r & g)": "111100000",
		"G (g -> O r)": "111111111", "F (r & Y Y Y Y r)": "111111111", "F (g & Y Y g & H !(r & g))": "000000000", "X (r S g) & !g": "010101010", "G X Y r": "000000000", "G (r -> H (g -> O r))": "111111111",
	} {
		shows(t, two, parse(t, text), short, want)
	}
}

// P8.1: the letters of signals with more than two values, which are chosen by the environment or not.
func TestLetters(t *testing.T) {
	for letter := range 24 {
		w := api.Lasso{Stem: []int{23 - letter}, Loop: []int{letter, 0, 23}}
		for name, vals := range map[string][]int{"a": {letter % 2, 0, 1}, "b": {letter / 2 % 3, 0, 2}, "c": {letter / 6, 0, 3}} {
			size := three[signal.Find(three, name)].Size
			for val := range size {
				stem := number(size-1-vals[0] == val) // the letter 23 - x has the values that are left to the greatest ones
				want := fmt.Sprint(stem, number(vals[0] == val), number(vals[1] == val), number(vals[2] == val), number(vals[0] == val))
				shows(t, three, is(name, val), w, strings.ReplaceAll(want, " ", ""))
			}
		}
	}
	six := []api.Signal{{Name: "u", Size: 2}, {Name: "v", Size: 2}, {Name: "w", Size: 2}, {Name: "x", Size: 2}, {Name: "y", Size: 2}, {Name: "z", Size: 2}}
	shows(t, six, parse(t, "u & v & w & x & y & z"), api.Lasso{Stem: []int{31}, Loop: []int{63, 62}}, "010101")
	shows(t, six, parse(t, "z"), api.Lasso{Stem: []int{31}, Loop: []int{32, 0}}, "010101")
	shows(t, []api.Signal{{Name: "abcdefghijkl", Size: 4}}, is("abcdefghijkl", 3), api.Lasso{Loop: []int{3, 1}}, "1010")
	shows(t, []api.Signal{{Name: "g", Size: 2}, {Name: "r", Input: true, Size: 2}}, parse(t, "r"), short, "001010101")
}

// P8.1 (H1): positions that are negative, in the stem, first and last in the loop, and many rounds later.
func TestPositions(t *testing.T) {
	past := parse(t, "!g S (r & Y Y Y r)") // true once the first round is over
	for _, w := range []api.Lasso{short, {Loop: []int{3, 0}}, {Stem: []int{1}, Loop: []int{0, 2, 3, 3, 1, 0, 2}}, {Loop: []int{1}}, {Stem: []int{2, 3}, Loop: []int{0}}} {
		s, p := len(w.Stem), len(w.Loop)
		far := 1 << 40
		positions := []int{0, s, s + p - 1, s + p, s + 2*p - 1, s + 2*p, s + far*p, s + far*p + p - 1, math.MaxInt, math.MaxInt - 1, math.MaxInt - p}
		for at := range s {
			positions = append(positions, at)
		}
		for _, at := range positions {
			if got := truth.Holds(two, is("r", 1), w, at); got != (word.At(w, at)%2 == 1) {
				t.Errorf("%v: r is %v at %d", w, got, at)
			}
			near := at
			if at > 300 {
				near = s + 100*p + (at-s)%p
			}
			for _, f := range []api.Formula{past, parse(t, "Y r"), parse(t, "X g"), parse(t, "F (r & X r)"), parse(t, "O (r & Y g)")} {
				if got := truth.Holds(two, f, w, at); got != definedRow(two, f, w, near+1)[near] {
					t.Errorf("%v on %v: %v at %d", f, w, got, at)
				}
			}
		}
		for _, at := range []int{-1, -2, -s, -p, math.MinInt} {
			for _, f := range []api.Formula{node(api.OpTrue), is("r", 0), is("r", 1), parse(t, "Z r"), parse(t, "G H (r | !r)")} {
				if at < 0 && truth.Holds(two, f, w, at) {
					t.Errorf("%v on %v: true at %d", f, w, at)
				}
			}
		}
	}
	if !truth.Holds(two, node(api.OpTrue), short, math.MaxInt) {
		t.Error("true is false at the last position")
	}
}

// P8.1 (H2): numbers of positions that are just allowed, and just not.
func TestNumbers(t *testing.T) {
	full := api.Lasso{Stem: slices.Repeat([]int{0, 1, 3}, 20), Loop: slices.Repeat([]int{2, 2, 1, 0, 3}, 8)}
	for _, w := range []api.Lasso{short, {Loop: []int{3}}, full} {
		for _, f := range []api.Formula{node(api.OpTrue), is("r", 1), parse(t, "X r"), parse(t, "F[9] (r & g)"), parse(t, "!r S (g & Y g)")} {
			for _, n := range []int{0, 1, 2, 59, 60, 61, 100, 101, 140, 499, 500} {
				row := truth.Row(two, f, w, n)
				if len(row) != n {
					t.Fatalf("%v on %v: %d of %d positions", f, w, len(row), n)
				}
				for at, x := range row {
					if at%7 == 0 && x != truth.Holds(two, f, w, at) {
						t.Errorf("%v on %v: Row says %v at %d", f, w, x, at)
					}
				}
			}
			agrees(t, two, f, w, 500)
			for _, n := range []int{-1, 501, -500, 1000, math.MaxInt, math.MinInt} {
				if row := truth.Row(two, f, w, n); len(row) > 0 {
					t.Errorf("%v on %v: a row of %d for %d", f, w, len(row), n)
				}
			}
		}
	}
}

// P8.1: signals that are not well-formed.
func TestSignals(t *testing.T) {
	seven := []api.Signal{{Name: "d", Size: 2}, {Name: "e", Size: 2}, {Name: "f", Size: 2}, {Name: "g", Size: 2}}
	for i, l := range [][]api.Signal{
		nil,
		{},
		append(slices.Clone(two), append(slices.Clone(three), seven[:2]...)...),
		append(slices.Clone(three), seven[:2]...), // 96 letters
		{{Name: "a", Size: 2}, {Name: "a", Size: 2}},
		{{Name: "a", Size: 2}, {Name: "b", Size: 3}, {Name: "c", Size: 4}, {Name: "b", Input: true, Size: 2}},
		{{Name: "a", Size: 1}},
		{{Name: "a", Size: 5}},
		{{Name: "a"}},
		{{Name: "a", Size: -2}},
		{{Name: "", Size: 2}},
		{{Name: "A", Size: 2}},
		{{Name: "a", Size: 2}, {Name: "true", Size: 2}},
		{{Name: "a", Size: 2}, {Name: "abcdefghijklm", Size: 2}},
	} {
		if signal.Valid(l) {
			t.Fatalf("list %d is well-formed", i)
		}
		for _, text := range []string{"true", "a", "a = 0", "!a", "G (a | !a)", "Z false", "q"} {
			refuses(t, l, parse(t, text), api.Lasso{Loop: []int{0}})
			refuses(t, l, parse(t, text), api.Lasso{Stem: []int{0, 1}, Loop: []int{1, 0}})
		}
		refuses(t, l, node(api.OpOr, slices.Repeat([]api.Formula{node(api.OpTrue), is("a", 0)}, 50)...), api.Lasso{Loop: []int{0}})
	}
}

// P8.1: lassos that are just valid for the letters, and just not.
func TestLassos(t *testing.T) {
	zeros := func(n int) []int { return make([]int, n) }
	with := func(n, i, letter int) []int {
		l := zeros(n)
		l[i] = letter
		return l
	}
	tautologies := []api.Formula{node(api.OpTrue), parse(t, "a | !a"), parse(t, "G (b = 0 | b = 1 | b = 2)"), parse(t, "Z true"), node(api.OpOr, slices.Repeat([]api.Formula{node(api.OpTrue), is("a", 0)}, 50)...)}
	for _, f := range tautologies {
		for _, w := range []api.Lasso{
			{Loop: zeros(1)}, {Loop: zeros(40)}, {Stem: zeros(60), Loop: zeros(40)}, {Stem: zeros(60), Loop: zeros(1)},
			{Loop: []int{23}}, {Stem: []int{23}, Loop: []int{0}}, {Stem: with(60, 59, 23), Loop: with(40, 39, 23)}, {Stem: []int{}, Loop: []int{1, 1, 1}},
		} {
			shows(t, three, f, w, "11111")
		}
		for _, w := range []api.Lasso{
			{}, {Stem: zeros(1)}, {Stem: zeros(3), Loop: []int{}}, {Loop: zeros(41)}, {Stem: zeros(61), Loop: zeros(1)}, {Stem: zeros(60), Loop: zeros(41)}, {Stem: zeros(61), Loop: zeros(40)},
			{Loop: []int{24}}, {Loop: []int{0, 0, 24}}, {Stem: []int{24}, Loop: zeros(1)}, {Stem: with(60, 59, 24), Loop: zeros(40)}, {Loop: with(40, 39, 24)}, {Loop: []int{63}}, {Loop: []int{64}},
			{Loop: []int{-1}}, {Stem: []int{0, -1}, Loop: zeros(1)}, {Loop: []int{math.MaxInt}}, {Stem: []int{math.MinInt}, Loop: zeros(1)}, {Loop: zeros(1 << 20)}, {Stem: zeros(1 << 20), Loop: zeros(1)},
		} {
			refuses(t, three, f, w)
		}
	}
	refuses(t, two, node(api.OpTrue), api.Lasso{Loop: []int{4}})
	shows(t, two, node(api.OpTrue), api.Lasso{Loop: []int{3}}, "11")
}

// P8.1: formulas that are just within the limits of what can be evaluated, and just not.
func TestLimits(t *testing.T) {
	w := api.Lasso{Stem: []int{0, 9}, Loop: []int{23, 1, 6}}
	a, q, high := is("a", 1), is("q", 1), is("a", 2)
	literals := func(n int) []api.Formula { return slices.Repeat([]api.Formula{a}, n) }
	deep := func(n int, f api.Formula) api.Formula { return nested(api.OpNext, n, f) }
	wide := func(f ...api.Formula) api.Formula { return node(api.OpOr, append(literals(90), f...)...) }
	in := []api.Formula{
		node(api.OpAnd, literals(59)...), node(api.OpAnd, literals(60)...), node(api.OpOr, literals(399)...),
		deep(19, a), deep(20, a), deep(59, a), deep(58, not(a)), nested(api.OpYesterday, 59, a), nested(api.OpYesterday, 58, not(a)), deep(30, nested(api.OpYesterday, 29, a)),
		node(api.OpGlobally, node(api.OpAnd, literals(57)...)), parse(t, "F[9] X a"), node(api.OpImp, node(api.OpAnd, literals(28)...), a), not(node(api.OpAnd, literals(29)...)),
		wide(is("b", 2)), wide(not(is("b", 2))), wide(is("c", 3), is("c", 0), is("a", 0)), wide(node(api.OpTrue), node(api.OpFalse)), wide(deep(58, a)), wide(nested(api.OpYesterday, 58, a)),
		wide(valued(api.OpSince, 1, a, a), valued(api.OpTrigger, 0, a, a), valued(api.OpYesterday, 1, a), node(api.OpUntil, a, valued(api.OpYesterday, 1, a)), node(api.OpRelease, a, deep(3, a))),
		formula.Not(formula.Or([]api.Formula{node(api.OpAnd, is("a", 1), is("b", 2)), parse(t, "X a")})), formula.Not(wide(a, is("b", 0))),
	}
	for _, f := range in {
		if !definedEvaluable(three, f) {
			t.Fatalf("%v is not defined", f)
		}
		agrees(t, three, f, w, 20)
	}
	shows(t, three, node(api.OpOr, literals(399)...), w, "011101")
	shows(t, three, deep(59, a), w, "11011011")
	out := []api.Formula{
		node(api.OpOr, literals(400)...), node(api.OpOr, append(literals(397), not(a), a)...), deep(60, a), deep(59, not(a)), nested(api.OpYesterday, 60, node(api.OpTrue)), node(api.OpNext, node(api.OpOr, literals(399)...)),
		parse(t, "F[9] F[9] true"), not(node(api.OpAnd, literals(30)...)), node(api.OpImp, node(api.OpAnd, literals(29)...), a), deep(18, node(api.OpImp, a, node(api.OpTrue))), node(api.OpGlobally, node(api.OpOr, append(literals(57), node(api.OpTrue))...)), node(api.OpOr, node(api.OpTrue), deep(20, parse(t, "F true"))),
		wide(node(api.OpTrue), q), wide(node(api.OpTrue), high), wide(node(api.OpTrue), is("b", 3)), wide(node(api.OpTrue), is("c", 4)), wide(node(api.OpTrue), is("a", -1)), wide(node(api.OpTrue), not(q)), wide(node(api.OpTrue), not(high)), wide(node(api.OpTrue), deep(40, not(q))), wide(node(api.OpTrue), deep(40, is("b", 3))), wide(node(api.OpTrue), is("", 1)), wide(node(api.OpTrue), is("A", 0)),
		wide(node(api.OpTrue), node(api.OpFinally, a)), wide(node(api.OpTrue), node(api.OpGlobally, a)), wide(node(api.OpTrue), node(api.OpOnce, a)), wide(node(api.OpTrue), node(api.OpHistorically, a)), wide(node(api.OpTrue), bounded(api.OpWithin, 0, a)), wide(node(api.OpTrue), bounded(api.OpDuring, 3, a)), wide(node(api.OpTrue), node(api.OpImp, a, a)),
		wide(node(api.OpTrue), not(not(a))), wide(node(api.OpTrue), not(node(api.OpTrue))), wide(node(api.OpTrue), not(node(api.OpAnd, a, a))), wide(node(api.OpTrue), not(deep(1, a))),
		wide(node(api.OpTrue), node(api.OpYesterday, deep(1, a))), wide(node(api.OpTrue), valued(api.OpSince, 1, a, node(api.OpUntil, a, a))), wide(node(api.OpTrue), node(api.OpYesterday, node(api.OpOr, a, node(api.OpRelease, a, a)))),
		wide(node(api.OpTrue), valued(api.OpYesterday, 2, a)), wide(node(api.OpTrue), node(api.OpAnd, a)), wide(node(api.OpTrue), node(api.OpUntil, a)), wide(node(api.OpTrue), node(api.OpNext, a, a)), wide(node(api.OpTrue), api.Formula{}), wide(node(api.OpTrue), valued(api.OpTrue, 1)), wide(node(api.OpTrue), api.Formula{Op: api.OpTrue, Name: "a"}), wide(node(api.OpTrue), bounded(api.OpNext, 1, a)),
	}
	for _, f := range out {
		if definedEvaluable(three, f) {
			t.Fatalf("%v is defined", f)
		}
		refuses(t, three, f, w)
	}
}

// P8.1: formulas of the usual size that cannot be evaluated, for different reasons.
func TestUnfit(t *testing.T) {
	w := api.Lasso{Stem: []int{1}, Loop: []int{3, 2}}
	for _, text := range []string{"q", "!q", "true | q", "r = 2", "r != 2", "true | g = 3", "X (r | !q)", "G (true | r = 3)", "Z F true", "O X true", "true S F true", "H G true", "Z (true | F r)", "Y r | !Y F r", "q S r", "O q -> true", "F[9] F[9] true", "!(F[9] F[9] false)"} {
		refuses(t, two, parse(t, text), w)
	}
	yes := node(api.OpTrue)
	for _, f := range []api.Formula{
		{}, {Op: -1}, {Op: 20}, {Op: math.MaxInt}, {Op: math.MinInt}, valued(api.OpTrue, 1), node(api.OpTrue, yes), {Op: api.OpTrue, Name: "r"}, {Op: api.OpTrue, Bound: 1}, {Op: api.OpIs, Name: "r", Val: -1}, {Op: api.OpIs, Val: 1}, {Op: api.OpIs, Name: "r", Val: 1, Args: []api.Formula{yes}}, {Op: api.OpIs, Name: "r", Val: math.MaxInt},
		node(api.OpNot), node(api.OpNot, yes, yes), node(api.OpAnd), node(api.OpAnd, yes), node(api.OpOr), node(api.OpOr, yes), node(api.OpImp, yes), node(api.OpImp, yes, yes, yes), node(api.OpNext), node(api.OpNext, yes, yes), node(api.OpUntil, yes), node(api.OpUntil, yes, yes, yes), node(api.OpRelease, yes), node(api.OpRelease),
		node(api.OpFinally), node(api.OpFinally, yes, yes), node(api.OpGlobally), bounded(api.OpGlobally, 1, yes), bounded(api.OpWithin, 10, yes), bounded(api.OpWithin, -1, yes), bounded(api.OpDuring, 10, yes), bounded(api.OpDuring, -1, yes), bounded(api.OpDuring, math.MaxInt, yes), node(api.OpWithin), node(api.OpDuring, yes, yes),
		valued(api.OpYesterday, 2, yes), valued(api.OpYesterday, -1, yes), node(api.OpYesterday), valued(api.OpSince, 2, yes, yes), valued(api.OpSince, -1, yes, yes), valued(api.OpSince, 1, yes), valued(api.OpTrigger, 2, yes, yes), valued(api.OpTrigger, 1, yes), valued(api.OpOnce, 1, yes), valued(api.OpHistorically, 1, yes), node(api.OpOnce), node(api.OpHistorically, yes, yes),
	} {
		for _, g := range []api.Formula{f, node(api.OpOr, yes, f), node(api.OpOr, f, yes), node(api.OpImp, f, yes), nested(api.OpNext, 30, f)} {
			refuses(t, two, g, w)
		}
	}
}

// P1: formulas that are very wide, very deep, or whose nodes share memory.
func TestHuge(t *testing.T) {
	yes := node(api.OpTrue)
	shared := yes
	for range 26 {
		shared = node(api.OpOr, shared, shared)
	}
	for _, f := range []api.Formula{node(api.OpOr, slices.Repeat([]api.Formula{yes}, 1<<20)...), nested(api.OpNext, 1<<16, yes), nested(api.OpYesterday, 1<<16, yes), not(node(api.OpAnd, slices.Repeat([]api.Formula{yes}, 1<<20)...)), shared, nested(api.OpFinally, 1<<16, yes)} {
		refuses(t, two, f, short)
		refuses(t, two, node(api.OpOr, yes, f), short)
	}
	refuses(t, slices.Repeat(two, 1<<18), yes, short)
	refuses(t, []api.Signal{{Name: strings.Repeat("r", 1<<20), Size: 2}}, yes, short)
	refuses(t, two, is(strings.Repeat("r", 1<<20), 1), short)
}

// lassos calls visit with all lassos over the letters below some number whose Stem and Loop have at most so many letters.
func lassos(letters, stem, loop int, visit func(w api.Lasso)) {
	lists := func(least, most int) [][]int {
		all := [][]int{{}}
		for i := 0; i < len(all); i++ {
			for x := 0; len(all[i]) < most && x < letters; x++ {
				all = append(all, append(slices.Clone(all[i]), x))
			}
		}
		return slices.DeleteFunc(all, func(l []int) bool { return len(l) < least })
	}
	for _, s := range lists(0, stem) {
		for _, p := range lists(1, loop) {
			visit(api.Lasso{Stem: s, Loop: p})
		}
	}
}

// P8.1: until, release and their kind on all small words, so that the arguments become true before, in and never in the loop.
func TestPairs(t *testing.T) {
	r, g := is("r", 1), is("g", 1)
	l := []api.Formula{node(api.OpUntil, r, g), node(api.OpRelease, r, g)}
	for val := range 2 {
		l = append(l, valued(api.OpSince, val, r, g), valued(api.OpTrigger, val, r, g))
	}
	lassos(4, 2, 3, func(w api.Lasso) {
		for _, f := range l {
			agrees(t, two, f, w, 9)
		}
	})
	for _, x := range []struct {
		stem, loop []int
		until      string
		release    string
	}{
		{[]int{1, 1, 3}, []int{0, 1}, "11100000", "00100000"},    // g before the loop
		{[]int{1, 1}, []int{1, 2, 0}, "11110110", "00000000"},    // g in the loop
		{[]int{1, 0}, []int{1, 1}, "00000000", "00000000"},       // g never
		{[]int{0, 2, 2}, []int{2}, "01111111", "01111111"},       // g always in the loop, r never
		{[]int{2, 0, 2}, []int{2, 3, 0}, "10111011", "00111011"}, // g until r
		{[]int{2, 2}, []int{3, 1, 1, 0}, "11100010", "11100010"}, // g until r at the first letter of the loop
		{[]int{0, 2}, []int{2, 2, 2, 3}, "01111111", "01111111"}, // g always in the loop, r at its last letter
		{[]int{1, 1}, []int{1, 1, 1, 2}, "11111111", "00000000"}, // g at the last letter of the loop
		{[]int{3, 1, 1}, []int{2, 1, 1}, "11111111", "10000000"}, // g at the first letter of the loop
		{[]int{2, 2, 0}, []int{0, 2}, "11001010", "00000000"},    // r never
		{nil, []int{1, 2, 0, 1}, "11011101", "00000000"},         // g in the next round
	} {
		w := api.Lasso{Stem: x.stem, Loop: x.loop}
		shows(t, two, l[0], w, x.until)
		shows(t, two, l[1], w, x.release)
	}
}

// P8.1: every Bound, which ends in the stem, in the loop or after more than one round.
func TestBounds(t *testing.T) {
	for bound := range 10 {
		for _, op := range []int{api.OpWithin, api.OpDuring} {
			f := bounded(op, bound, is("r", 1))
			lassos(2, 3, 4, func(w api.Lasso) { agrees(t, two, f, w, 9) })
			agrees(t, two, f, api.Lasso{Stem: make([]int, 12), Loop: append(make([]int, 11), 1)}, 40)
			agrees(t, two, f, api.Lasso{Stem: slices.Repeat([]int{1}, 12), Loop: append(slices.Repeat([]int{1}, 11), 0)}, 40)
		}
	}
	once, twice := api.Lasso{Stem: []int{0, 0, 0, 1, 0, 0}, Loop: []int{0}}, api.Lasso{Stem: []int{1, 0, 1}, Loop: []int{1, 1, 0}}
	shows(t, two, parse(t, "F[0] r"), once, "00010000")
	shows(t, two, parse(t, "F[2] r"), once, "01110000")
	shows(t, two, parse(t, "F[9] r"), once, "11110000")
	shows(t, two, parse(t, "G[0] r"), twice, "1011101101")
	shows(t, two, parse(t, "G[1] r"), twice, "0011001001")
	shows(t, two, parse(t, "G[2] r"), twice, "0010000000")
	shows(t, two, parse(t, "G[3] r"), twice, "0000000000")
	shows(t, two, parse(t, "F[1] !r"), twice, "1100110110")
	shows(t, two, parse(t, "F[3] !r"), twice, "1111111111")
}

// forms returns an operator with different Vals and Bounds, as far as it has them.
func forms(op int) []api.Formula {
	switch op {
	case api.OpYesterday, api.OpSince, api.OpTrigger:
		return []api.Formula{{Op: op}, {Op: op, Val: 1}}
	case api.OpWithin, api.OpDuring:
		return []api.Formula{{Op: op}, {Op: op, Bound: 2}}
	}
	return []api.Formula{{Op: op}}
}

// P8.1: each operator in each argument of each other one, at position 0 and later.
func TestNesting(t *testing.T) {
	r, g := is("r", 1), is("g", 1)
	words := []api.Lasso{short, {Loop: []int{0, 1, 3, 2}}, {Stem: []int{3, 1}, Loop: []int{1}}, {Stem: []int{2, 3, 0}, Loop: []int{1, 2, 0}}, {Loop: []int{0, 0, 1}}, {Stem: []int{0, 2}, Loop: []int{2, 3}}}
	evaluated, refused := 0, 0
	for _, outer := range ops {
		for _, inner := range ops {
			for i := range arity(outer) {
				for _, f := range forms(outer) {
					for _, h := range forms(inner) {
						h.Args = []api.Formula{g, r}[:arity(inner)]
						if inner == api.OpIs {
							h = r
						}
						f.Args = slices.Repeat([]api.Formula{g}, arity(outer))
						f.Args[i] = h
						if slices.Contains(pastOps, outer) && slices.Contains(futureOps, inner) {
							refused++
							refuses(t, two, f, words[0])
							continue
						}
						for _, w := range words {
							evaluated++
							agrees(t, two, f, w, 14)
						}
					}
				}
			}
		}
	}
	if evaluated < 3500 || refused < 100 {
		t.Error("too few formulas:", evaluated, refused)
	}
}

// P8.1: many formulas on many words, most of which are small.
func TestFormulas(t *testing.T) {
	for _, m := range []maker{makerOf(81, two, ops), makerOf(82, three, ops), makerOf(83, two, kernelOps), makerOf(84, three, kernelOps)} {
		varied := 0
		for i, f := range m.evaluable(2500, 20) {
			w := m.lasso(5, 5)
			if i%50 == 0 {
				w = m.lasso(60, 40)
			}
			agrees(t, m.signals, f, w, 30)
			row := truth.Row(m.signals, f, w, 30)
			if slices.Contains(row, true) && slices.Contains(row, false) {
				varied++
			}
		}
		if varied < 300 {
			t.Error("too few formulas that are true at times:", varied)
		}
	}
}

// P8.1: loose kernels that are larger or deeper than formulas that are written.
func TestLooseKernels(t *testing.T) {
	large, deep := 0, 0
	for _, m := range []maker{makerOf(85, two, kernelOps), makerOf(86, three, kernelOps)} {
		for range 900 {
			f := m.formula(1+m.Intn(350), false)
			if m.Intn(3) == 0 {
				f = nested(api.OpNext, m.Intn(40), f)
			}
			w := m.lasso(4, 4)
			if !definedEvaluable(m.signals, f) {
				refuses(t, m.signals, f, w)
				continue
			}
			if len(nodesOf(f)) > 60 {
				large++
			}
			if depthOf(f) > 20 {
				deep++
			}
			agrees(t, m.signals, f, w, 10)
		}
	}
	if large < 400 || deep < 200 {
		t.Error("too few large kernels:", large, deep)
	}
}

// P8.1: names and values that the signals do not have, at any place.
func TestForeign(t *testing.T) {
	foreign := 0
	for _, m := range []maker{makerOf(87, three, ops), makerOf(88, three, kernelOps)} {
		for _, f := range m.evaluable(1000, 100) {
			w := m.lasso(3, 3)
			f = copied(f)
			leaves := leavesOf(&f)
			if len(leaves) == 0 {
				continue
			}
			leaf := pick(m.Rand, leaves)
			if m.Intn(2) == 0 {
				leaf.Name = pick(m.Rand, unknown)
			} else {
				leaf.Val = three[signal.Find(three, leaf.Name)].Size
			}
			if definedEvaluable(three, f) {
				t.Fatalf("%v is defined", f)
			}
			foreign++
			refuses(t, three, f, w)
			refuses(t, three, formula.Not(f), w)
		}
	}
	if foreign < 1500 {
		t.Error("too few formulas:", foreign)
	}
}

// leavesOf returns the nodes of a formula that mention a signal.
func leavesOf(f *api.Formula) []*api.Formula {
	if f.Op == api.OpIs {
		return []*api.Formula{f}
	}
	var l []*api.Formula
	for i := range f.Args {
		l = append(l, leavesOf(&f.Args[i])...)
	}
	return l
}

// P3 and DOC.md's rules: equal arguments have equal results, arguments are left as they are, and a result can be changed.
func TestArguments(t *testing.T) {
	m := makerOf(89, three, ops)
	for _, f := range m.evaluable(500, 15) {
		w := m.lasso(6, 6)
		g, v := copied(f), api.Lasso{Stem: append(make([]int, 0, 20), w.Stem...), Loop: append(make([]int, 0, 20), w.Loop...)}
		l := append(make([]api.Signal, 0, 9), three...)
		row := truth.Row(l, g, v, 25)
		again := truth.Row(three, f, w, 25)
		holds := truth.Holds(l, g, v, 7)
		if !slices.Equal(row, again) || holds != row[7] || holds != truth.Holds(three, f, w, 7) {
			t.Errorf("%v on %v: different results", f, w)
		}
		if formula.Compare(f, g) != 0 || !slices.Equal(v.Stem, w.Stem) || !slices.Equal(v.Loop, w.Loop) || !slices.Equal(l, three) {
			t.Errorf("%v on %v: an argument has changed", f, w)
		}
		for i := range row {
			row[i] = !row[i]
		}
		if !slices.Equal(truth.Row(l, g, v, 25), again) {
			t.Errorf("%v on %v: the result was not new", f, w)
		}
	}
}
