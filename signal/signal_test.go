package signal_test

import (
	"fmt"
	"math"
	"slices"
	"strings"
	"testing"

	"foresight/api"
	"foresight/signal"
)

// sample is the list of the chapter's examples.
func sample() []api.Signal {
	return []api.Signal{{Name: "r", Input: true, Size: 2}, {Name: "m", Size: 3}, {Name: "s", Input: true, Size: 2}}
}

// sized returns outputs a, b, c .. with these sizes.
func sized(sizes ...int) []api.Signal {
	l := make([]api.Signal, len(sizes))
	for i, n := range sizes {
		l[i] = api.Signal{Name: string(rune('a' + i)), Size: n}
	}
	return l
}

// named returns outputs with two values and these names.
func named(names ...string) []api.Signal {
	l := make([]api.Signal, len(names))
	for i, n := range names {
		l[i] = api.Signal{Name: n, Size: 2}
	}
	return l
}

// all yields well-formed signals of all sizes and directions there are.
func all(yield func([]api.Signal) bool) {
	var grow func(sizes []int, product int) bool
	grow = func(sizes []int, product int) bool {
		for inputs := range 1 << len(sizes) {
			if len(sizes) == 0 {
				break
			}
			l := sized(sizes...)
			for i := range l {
				l[i].Input = inputs>>i&1 == 1
			}
			if !yield(l) {
				return false
			}
		}
		if len(sizes) == api.MaxSignals {
			return true
		}
		for n := 2; n <= api.MaxValues && n*product <= api.MaxLetters; n++ {
			if !grow(append(slices.Clone(sizes), n), n*product) {
				return false
			}
		}
		return true
	}
	grow(nil, 1)
}

// tuples yields all lists of values, the first signal's value changing fastest.
func tuples(l []api.Signal) func(func([]int) bool) {
	return func(yield func([]int) bool) {
		vals := make([]int, len(l))
		for {
			if !yield(slices.Clone(vals)) {
				return
			}
			i := 0
			for i < len(l) && vals[i] == l[i].Size-1 {
				vals[i] = 0
				i++
			}
			if i == len(l) {
				return
			}
			vals[i]++
		}
	}
}

// number computes the number of values by the definition, for the signals that keep accepts.
func number(l []api.Signal, vals []int, keep func(api.Signal) bool) int {
	n := 0
	for i := len(l) - 1; i >= 0; i-- {
		if keep(l[i]) {
			n = n*l[i].Size + vals[i]
		}
	}
	return n
}

func every(api.Signal) bool      { return true }
func isInput(s api.Signal) bool  { return s.Input }
func isOutput(s api.Signal) bool { return !s.Input }

// malformed are signals that are not well-formed.
func malformed() map[string][]api.Signal {
	return map[string][]api.Signal{
		"nil":             nil,
		"empty":           {},
		"seven":           sized(2, 2, 2, 2, 2, 2, 2),
		"too many":        sized(4, 4, 4, 2),
		"81 letters":      sized(3, 3, 3, 3),
		"size 11":         sized(2, 3, 11),
		"size 0":          sized(0),
		"size 1":          sized(1),
		"size 5":          sized(5),
		"size -2":         sized(2, -2),
		"two of size -2":  sized(-2, -2),
		"wrapping sizes":  sized(1<<32, 1<<32),
		"largest size":    sized(math.MaxInt, 2),
		"last of size 1":  sized(2, 2, 1),
		"twice":           named("a", "b", "a"),
		"no name":         named("a", ""),
		"key word":        named("a", "part"),
		"capital":         named("A"),
		"long name":       named("abcdefghijklm"),
		"both directions": {{Name: "a", Input: true, Size: 2}, {Name: "a", Size: 3}},
	}
}

// P1.1 (A1)
func TestValid(t *testing.T) {
	good := [][]api.Signal{
		sample(), sized(2), sized(4), sized(4, 4, 4), sized(2, 2, 2, 2, 2, 2), sized(3, 3, 3, 2), sized(4, 4, 2, 2),
		named("abcdefghijkl"), named("a", "b"), named("a", "aa"),
		{{Name: "a", Input: true, Size: 2}}, {{Name: "a", Input: true, Size: 2}, {Name: "b", Input: true, Size: 2}},
	}
	for i, l := range good {
		if !signal.Valid(l) {
			t.Errorf("good signals %d are refused: %v", i, l)
		}
	}
	for name, l := range malformed() {
		if signal.Valid(l) {
			t.Errorf("%s: accepted", name)
		}
	}
	n := 0
	for l := range all {
		n++
		if !signal.Valid(l) {
			t.Errorf("refused: %v", l)
		}
	}
	if n < 1000 {
		t.Errorf("only %d lists were tried", n)
	}
}

// P1.1 (A1): exactly the lists within the limits are well-formed.
func TestValidSizes(t *testing.T) {
	for a := -1; a <= 6; a++ {
		for b := -1; b <= 6; b++ {
			for c := -1; c <= 6; c++ {
				for d := -1; d <= 6; d++ {
					sizes := []int{a, b, c, d}
					want := a*b*c*d <= 64 && slices.Min(sizes) >= 2 && slices.Max(sizes) <= 4
					if got := signal.Valid(sized(sizes...)); got != want {
						t.Errorf("sizes %v: %v", sizes, got)
					}
				}
			}
		}
	}
}

// P1.1 (A1)
func TestName(t *testing.T) {
	good := []string{"a", "z", "a0", "z9", "a_", "a_9", "a__b", "abcdefghijkl", "a12345678901", "inputs", "inpu", "xinput", "truth", "adds", "add_", "un", "assumes", "iff"}
	for _, s := range good {
		if !signal.Name(s) {
			t.Errorf("%q is refused", s)
		}
	}
	bad := []string{"", "_", "_a", "9", "9a", "A", "aB", "Input", "a b", " a", "a ", "a-", "a.b", "a\x00", "a\n", "é", "aé", "a\xff", "\xff", "abcdefghijklm", "abcdefghijk_9", strings.Repeat("a", 100000),
		"input", "output", "part", "assume", "guarantee", "true", "false", "add", "drop", "replace"}
	for _, s := range bad {
		if signal.Name(s) {
			t.Errorf("%q is accepted", s)
		}
	}
	for b := range 256 {
		c := string([]byte{byte(b)})
		small := strings.Contains("abcdefghijklmnopqrstuvwxyz", c)
		later := small || strings.Contains("0123456789_", c)
		if signal.Name(c) != small || signal.Name("x"+c) != later || signal.Name("x"+c+"x") != later {
			t.Errorf("byte %d", b)
		}
	}
}

// P1.1 (A2)
func TestNumbers(t *testing.T) {
	for _, c := range []struct {
		l                        []api.Signal
		letters, inputs, outputs int
	}{
		{sample(), 12, 4, 3},
		{sized(3), 3, 1, 3},
		{sized(2, 4), 8, 1, 8},
		{[]api.Signal{{Name: "a", Input: true, Size: 3}}, 3, 3, 1},
		{[]api.Signal{{Name: "a", Input: true, Size: 3}, {Name: "b", Input: true, Size: 2}}, 6, 6, 1},
		{sized(4, 4, 4), 64, 1, 64},
		{sized(2, 2, 2, 2, 2, 2), 64, 1, 64},
	} {
		if a, b, d := signal.Letters(c.l), signal.Inputs(c.l), signal.Outputs(c.l); a != c.letters || b != c.inputs || d != c.outputs {
			t.Errorf("%v: %d, %d, %d", c.l, a, b, d)
		}
	}
}

// P1.1 (A1): all functions but Valid, Find and Name return zero results for signals that are not well-formed.
func TestMalformed(t *testing.T) {
	for name, l := range malformed() {
		if signal.Letters(l) != 0 || signal.Inputs(l) != 0 || signal.Outputs(l) != 0 {
			t.Errorf("%s: numbers", name)
		}
		for _, vals := range [][]int{nil, {1}, {1, 1}, {1, 0, 1}, {1, 1, 1, 1}, {1, 1, 1, 1, 1, 1, 1}} {
			if x, ok := signal.Make(l, vals); x != 0 || ok {
				t.Errorf("%s: Make of %v: %d, %v", name, vals, x, ok)
			}
		}
		for n := -2; n < 10; n++ {
			if signal.In(l, n) != 0 || signal.Out(l, n) != 0 {
				t.Errorf("%s: halves of %d", name, n)
			}
			for m := -2; m < 10; m++ {
				if signal.Value(l, n, m) != 0 || signal.Join(l, n, m) != 0 {
					t.Errorf("%s: value or letter of %d, %d", name, n, m)
				}
			}
		}
	}
}

// P1.1 (A3), P1.6: Find is specified for all signals.
func TestFind(t *testing.T) {
	odd := []api.Signal{{Name: "B"}, {Name: ""}, {Name: "x", Size: 99}, {Name: "x", Size: 2}, {Name: "input"}, {}}
	for _, c := range []struct {
		l    []api.Signal
		name string
		want int
	}{
		{sample(), "r", 0}, {sample(), "m", 1}, {sample(), "s", 2}, {sample(), "g", -1}, {sample(), "", -1}, {sample(), "R", -1}, {sample(), "rm", -1},
		{odd, "B", 0}, {odd, "", 1}, {odd, "x", 2}, {odd, "input", 4}, {odd, "b", -1},
		{nil, "a", -1}, {nil, "", -1}, {named("a", "b", "c", "d", "e", "f", "g", "h"), "h", 7},
	} {
		if got := signal.Find(c.l, c.name); got != c.want {
			t.Errorf("Find(%v, %q) = %d", c.l, c.name, got)
		}
	}
	for l := range all {
		for i, s := range l {
			if signal.Find(l, s.Name) != i {
				t.Errorf("%v: %d", l, i)
			}
		}
	}
}

// P1.1 (A4, A5): the examples of the chapter.
func TestExamples(t *testing.T) {
	l := sample()
	if x, ok := signal.Make(l, []int{1, 2, 1}); x != 11 || !ok {
		t.Errorf("Make: %d, %v", x, ok)
	}
	if x, ok := signal.Make(l, []int{2, 0, 0}); x != 0 || ok {
		t.Errorf("Make of no values: %d, %v", x, ok)
	}
	if signal.In(l, 11) != 3 || signal.Out(l, 11) != 2 || signal.Join(l, 2, 1) != 8 || signal.Value(l, 8, 2) != 1 {
		t.Error("letters 8 and 11")
	}
}

// P1.1 (A4): lists that are not the values of a letter.
func TestMakeRefuses(t *testing.T) {
	for _, vals := range [][]int{nil, {}, {0}, {0, 0}, {0, 0, 0, 0}, {1, 2, 1, 0}, {2, 0, 0}, {0, 3, 0}, {0, 0, 2}, {-1, 0, 0}, {0, -1, 0}, {0, 1, -1}, {0, math.MaxInt, 0}, {0, 0, math.MinInt}} {
		if x, ok := signal.Make(sample(), vals); x != 0 || ok {
			t.Errorf("%v: %d, %v", vals, x, ok)
		}
	}
	if x, ok := signal.Make(sample(), []int{0, 0, 0}); x != 0 || !ok {
		t.Errorf("the letter 0: %d, %v", x, ok)
	}
}

// P1.1 (A4, A5): letters, signals, inputs and outputs out of range.
func TestOutOfRange(t *testing.T) {
	for l := range all {
		letters, inputs, outputs := signal.Letters(l), signal.Inputs(l), signal.Outputs(l)
		for _, x := range []int{-1, -letters, letters, letters + 1, 2*letters - 1, math.MaxInt, math.MinInt} {
			if signal.In(l, x) != 0 || signal.Out(l, x) != 0 {
				t.Errorf("%v: halves of %d", l, x)
			}
			for i := range l {
				if signal.Value(l, x, i) != 0 {
					t.Errorf("%v: value %d of %d", l, i, x)
				}
			}
		}
		for _, i := range []int{-1, len(l), len(l) + 1, math.MaxInt, math.MinInt} {
			if signal.Value(l, letters-1, i) != 0 {
				t.Errorf("%v: value %d", l, i)
			}
		}
		for _, n := range []int{-1, math.MinInt, math.MaxInt, 0} {
			in, out := n, n
			if n == 0 {
				in, out = inputs, outputs
			}
			if signal.Join(l, in, outputs-1) != 0 || signal.Join(l, inputs-1, out) != 0 || signal.Join(l, in, out) != 0 {
				t.Errorf("%v: Join of %d, %d", l, in, out)
			}
		}
	}
}

// P1.1 (A2, A4, A5): every function against the definition, for all signals and letters.
func TestDefinition(t *testing.T) {
	for l := range all {
		letters := 0
		for vals := range tuples(l) {
			want, in, out := number(l, vals, every), number(l, vals, isInput), number(l, vals, isOutput)
			if want != letters {
				t.Fatalf("%v: the values %v are listed as %d, not as %d", l, vals, letters, want)
			}
			letters++
			if x, ok := signal.Make(l, vals); x != want || !ok {
				t.Fatalf("%v: Make of %v: %d, %v", l, vals, x, ok)
			}
			if signal.In(l, want) != in || signal.Out(l, want) != out || signal.Join(l, in, out) != want {
				t.Fatalf("%v: halves of %d", l, want)
			}
			for i, v := range vals {
				if signal.Value(l, want, i) != v {
					t.Fatalf("%v: value %d of %d", l, i, want)
				}
			}
		}
		if signal.Letters(l) != letters {
			t.Fatalf("%v: %d letters, not %d", l, signal.Letters(l), letters)
		}
	}
}

// P1.2
func TestPairs(t *testing.T) {
	for l := range all {
		letters, inputs, outputs := signal.Letters(l), signal.Inputs(l), signal.Outputs(l)
		if letters != inputs*outputs {
			t.Fatalf("%v: %d letters, %d inputs, %d outputs", l, letters, inputs, outputs)
		}
		for x := range letters {
			if signal.Join(l, signal.In(l, x), signal.Out(l, x)) != x {
				t.Fatalf("%v: letter %d", l, x)
			}
		}
		for in := range inputs {
			for out := range outputs {
				x := signal.Join(l, in, out)
				if x < 0 || x >= letters || signal.In(l, x) != in || signal.Out(l, x) != out {
					t.Fatalf("%v: input %d, output %d", l, in, out)
				}
			}
		}
	}
}

// values returns the values of a letter.
func values(l []api.Signal, x int) []int {
	vals := make([]int, len(l))
	for i := range l {
		vals[i] = signal.Value(l, x, i)
	}
	return vals
}

// P1.3
func TestValues(t *testing.T) {
	for l := range all {
		seen := map[string]bool{}
		for x := range signal.Letters(l) {
			vals := values(l, x)
			if y, ok := signal.Make(l, vals); y != x || !ok {
				t.Fatalf("%v: letter %d", l, x)
			}
			if k := fmt.Sprint(vals); seen[k] {
				t.Fatalf("%v: two letters with the values %s", l, k)
			} else {
				seen[k] = true
			}
		}
		for vals := range tuples(l) {
			if x, ok := signal.Make(l, vals); !ok || !slices.Equal(values(l, x), vals) {
				t.Fatalf("%v: values %v", l, vals)
			}
		}
	}
}

// P1.4 and P1.5: one value is increased; the halves to which its signal does not belong stay.
func TestHalvesAndOrder(t *testing.T) {
	for l := range all {
		for vals := range tuples(l) {
			x, _ := signal.Make(l, vals)
			for i, s := range l {
				if vals[i] == s.Size-1 {
					continue
				}
				more := slices.Clone(vals)
				more[i]++
				y, ok := signal.Make(l, more)
				own, other := signal.Out, signal.In
				if s.Input {
					own, other = signal.In, signal.Out
				}
				if !ok || y <= x || own(l, y) <= own(l, x) {
					t.Fatalf("%v: %v and %v are not in order", l, vals, more)
				}
				if other(l, y) != other(l, x) {
					t.Fatalf("%v: signal %d has an effect on the other half", l, i)
				}
			}
		}
	}
}

// P1.6
func TestLeaveOut(t *testing.T) {
	for l := range all {
		for i, s := range l {
			rest := slices.Delete(slices.Clone(l), i, i+1)
			if len(rest) == 0 {
				if signal.Valid(rest) {
					t.Fatal("no signals are well-formed")
				}
				continue
			}
			if !signal.Valid(rest) || signal.Letters(rest)*s.Size != signal.Letters(l) {
				t.Fatalf("%v without signal %d", l, i)
			}
		}
	}
}

// P3 and the rules: equal arguments yield equal results, and arguments are not modified.
func TestIndependence(t *testing.T) {
	l, vals := sample(), []int{1, 2, 1}
	for range 3 {
		x, ok := signal.Make(l, vals)
		if x != 11 || !ok || signal.Join(l, signal.In(l, x), signal.Out(l, x)) != 11 || signal.Value(l, x, 1) != 2 || !signal.Valid(l) || signal.Letters(l) != 12 {
			t.Fatal("results change")
		}
		signal.Make(named("A"), vals)
		signal.Valid(malformed()["seven"])
	}
	if !slices.Equal(l, sample()) || !slices.Equal(vals, []int{1, 2, 1}) {
		t.Error("arguments are modified")
	}
}
