package printer_test

import (
	"fmt"
	"math/rand"
	"slices"
	"strings"
	"testing"

	"foresight/api"
	"foresight/formula"
	"foresight/lexer"
	"foresight/parser"
	"foresight/printer"
)

// kind is a kind of items.
type kind[T any] struct {
	name    string
	print   func(item T) string
	defined func(item T) string
	parse   func(text string) (T, api.Errno, int)
	equal   func(x, y T) bool
}

var (
	formulas = kind[api.Formula]{"formula", printer.Formula, defined, parser.Formula, sameFormula}
	specs    = kind[api.Spec]{"spec", printer.Spec, definedSpec, parser.Spec, sameSpec}
	edits    = kind[api.Edit]{"edit", printer.Edit, definedEdit, parser.Edit, sameEdit}
)

// prints compares the text of an item with the right one.
func (k kind[T]) prints(t *testing.T, item T, want string) {
	t.Helper()
	if text := k.print(item); text != want {
		t.Errorf("%s %.300s: got %.300q, want %.300q", k.name, fmt.Sprint(item), text, want)
	}
}

// refuses checks that an item is not printable.
func (k kind[T]) refuses(t *testing.T, item T) {
	t.Helper()
	k.prints(t, item, "")
	if text := k.defined(item); text != "" {
		t.Errorf("%s %.300s: the definition has %.300q", k.name, fmt.Sprint(item), text)
	}
}

// check compares the text of an item with the definition, and what it is parsed to with the item.
func (k kind[T]) check(t *testing.T, item T) {
	t.Helper()
	want := k.defined(item)
	k.prints(t, item, want)
	if want != "" {
		k.inverse(t, item)
	}
}

// inverse checks that the text of an item is parsed to it, and reports whether it is, and not beyond the limits of the lexer.
func (k kind[T]) inverse(t *testing.T, item T) bool {
	t.Helper()
	text := k.print(item)
	got, e, at := k.parse(text)
	if _, le, lat := lexer.Lex(text); le == api.ErrLimit {
		if e != le || at != lat {
			t.Errorf("%s %.300q: parsed with %d %d, but beyond a limit", k.name, text, e, at)
		}
		return false
	}
	if e != api.OK || at != -1 || !k.equal(got, item) {
		t.Errorf("%s %.300q: parsed to %.300s %d %d, want %.300s", k.name, text, fmt.Sprint(got), e, at, fmt.Sprint(item))
		return false
	}
	return true
}

// distinct checks that different items have different texts.
func (k kind[T]) distinct(t *testing.T, l []T) {
	t.Helper()
	seen := map[string]T{}
	for _, item := range l {
		text := k.print(item)
		if first, ok := seen[text]; ok && !k.equal(first, item) {
			t.Errorf("%s %.300q is the text of %.300s and %.300s", k.name, text, fmt.Sprint(first), fmt.Sprint(item))
		}
		seen[text] = item
	}
}

// P6.1: the chapter's examples, and those of DOC.md.
func TestExamples(t *testing.T) {
	a, b := is("a", 1), is("b", 1)
	for _, x := range []struct {
		f    api.Formula
		want string
	}{
		{node(api.OpGlobally, node(api.OpImp, is("r", 1), bounded(api.OpWithin, 3, is("g", 1)))), "G (r -> F[3] g)"},
		{node(api.OpUntil, node(api.OpUntil, a, is("b", 0)), node(api.OpNot, is("c", 2))), "(a U b=0) U !c=2"},
		{node(api.OpAnd, a, node(api.OpAnd, b, is("c", 1)), node(api.OpOr, a, b)), "a & (b & c) & (a | b)"},
		{valued(api.OpSince, 1, valued(api.OpYesterday, 1, a), valued(api.OpTrigger, 0, a, b)), "Z a S[1] a T[0] b"},
		{node(api.OpAnd, node(api.OpUntil, node(api.OpTrue), is("g", 1)), node(api.OpRelease, node(api.OpFalse), node(api.OpOr, node(api.OpNot, is("r", 1)), node(api.OpUntil, node(api.OpTrue), is("g", 1))))), "true U g & false R (!r | true U g)"},
	} {
		formulas.prints(t, x.f, x.want)
		formulas.check(t, x.f)
	}
	edits.prints(t, api.Edit{Kind: api.EditDrop, Req: api.Req{Name: "g"}}, "drop g")
	specs.prints(t, api.Spec{
		Signals: []api.Signal{{Name: "r", Input: true, Size: 2}, {Name: "g", Size: 2}},
		Reqs:    []api.Req{{Part: "p", Name: "a", Kind: api.Guarantee, Formula: node(api.OpGlobally, node(api.OpImp, is("r", 1), node(api.OpFinally, is("g", 1))))}},
	}, "input r;\noutput g;\npart p {\n  guarantee a: G (r -> F g);\n}\n")
}

// P6.1: each operator, with and without a number.
func TestOperators(t *testing.T) {
	a, b := is("a", 1), is("b", 1)
	for _, x := range []struct {
		f    api.Formula
		want string
	}{
		{node(api.OpTrue), "true"}, {node(api.OpFalse), "false"}, {is("a", 1), "a"}, {is("a", 0), "a=0"}, {is("a", 2), "a=2"}, {is("a", 10), "a=10"}, {is("a", 11), "a=11"}, {is("a", 9999), "a=9999"},
		{node(api.OpNot, a), "!a"}, {node(api.OpNext, a), "X a"}, {node(api.OpOnce, a), "O a"}, {node(api.OpHistorically, a), "H a"}, {node(api.OpFinally, a), "F a"}, {node(api.OpGlobally, a), "G a"},
		{valued(api.OpYesterday, 0, a), "Y a"}, {valued(api.OpYesterday, 1, a), "Z a"},
		{bounded(api.OpWithin, 0, a), "F[0] a"}, {bounded(api.OpWithin, 1, a), "F[1] a"}, {bounded(api.OpWithin, 10, a), "F[10] a"}, {bounded(api.OpWithin, 9999, a), "F[9999] a"},
		{bounded(api.OpDuring, 0, a), "G[0] a"}, {bounded(api.OpDuring, 1, a), "G[1] a"}, {bounded(api.OpDuring, 10, a), "G[10] a"}, {bounded(api.OpDuring, 9999, a), "G[9999] a"},
		{node(api.OpUntil, a, b), "a U b"}, {node(api.OpRelease, a, b), "a R b"}, {node(api.OpImp, a, b), "a -> b"},
		{valued(api.OpSince, 0, a, b), "a S b"}, {valued(api.OpSince, 1, a, b), "a S[1] b"}, {valued(api.OpSince, 2, a, b), "a S[2] b"}, {valued(api.OpSince, 9999, a, b), "a S[9999] b"},
		{valued(api.OpTrigger, 0, a, b), "a T[0] b"}, {valued(api.OpTrigger, 1, a, b), "a T b"}, {valued(api.OpTrigger, 2, a, b), "a T[2] b"}, {valued(api.OpTrigger, 9999, a, b), "a T[9999] b"},
		{node(api.OpAnd, a, b), "a & b"}, {node(api.OpAnd, b, a, a), "b & a & a"}, {node(api.OpOr, a, b), "a | b"}, {node(api.OpOr, b, b, a, b), "b | b | a | b"},
	} {
		formulas.prints(t, x.f, x.want)
		formulas.check(t, x.f)
	}
}

// P6.1: where parentheses stand and where none do: every level is once just high enough and once just too low.
func TestLevels(t *testing.T) {
	a, b := is("a", 1), is("b", 1)
	imp, or, and, until, not := node(api.OpImp, a, b), node(api.OpOr, a, b), node(api.OpAnd, a, b), node(api.OpUntil, a, b), node(api.OpNot, a)
	for _, x := range []struct {
		f    api.Formula
		want string
	}{
		{node(api.OpImp, or, imp), "a | b -> a -> b"}, {node(api.OpImp, imp, or), "(a -> b) -> a | b"}, {node(api.OpImp, imp, node(api.OpImp, a, imp)), "(a -> b) -> a -> a -> b"},
		{node(api.OpOr, and, and), "a & b | a & b"}, {node(api.OpOr, or, a), "(a | b) | a"}, {node(api.OpOr, a, or), "a | (a | b)"}, {node(api.OpOr, imp, a, imp), "(a -> b) | a | (a -> b)"},
		{node(api.OpAnd, until, until), "a U b & a U b"}, {node(api.OpAnd, and, a), "(a & b) & a"}, {node(api.OpAnd, a, and), "a & (a & b)"}, {node(api.OpAnd, or, a, or), "(a | b) & a & (a | b)"}, {node(api.OpAnd, imp, a, imp), "(a -> b) & a & (a -> b)"},
		{node(api.OpNot, not), "!!a"}, {node(api.OpNot, until), "!(a U b)"}, {node(api.OpNot, and), "!(a & b)"}, {node(api.OpNot, imp), "!(a -> b)"}, {node(api.OpNot, is("a", 0)), "!a=0"},
	} {
		formulas.prints(t, x.f, x.want)
	}
	for sign, op := range map[string]int{"U": api.OpUntil, "R": api.OpRelease, "S": api.OpSince, "T[0]": api.OpTrigger} {
		formulas.prints(t, node(op, not, until), "!a "+sign+" a U b")
		formulas.prints(t, node(op, until, not), "(a U b) "+sign+" !a")
		formulas.prints(t, node(op, and, or), "(a & b) "+sign+" (a | b)")
		formulas.prints(t, node(op, imp, and), "(a -> b) "+sign+" (a & b)")
		for _, inner := range []int{api.OpUntil, api.OpRelease, api.OpSince, api.OpTrigger} {
			formulas.check(t, node(op, a, node(inner, a, b)))
			formulas.check(t, node(op, node(inner, a, b), b))
		}
	}
	for sign, op := range map[string]int{"X": api.OpNext, "O": api.OpOnce, "H": api.OpHistorically, "F": api.OpFinally, "G": api.OpGlobally, "Y": api.OpYesterday, "F[0]": api.OpWithin, "G[0]": api.OpDuring} {
		formulas.prints(t, node(op, not), sign+" !a")
		formulas.prints(t, node(op, node(op, a)), sign+" "+sign+" a")
		formulas.prints(t, node(api.OpNot, node(op, a)), "!"+sign+" a")
		formulas.prints(t, node(op, until), sign+" (a U b)")
		formulas.prints(t, node(op, or), sign+" (a | b)")
	}
}

// nested returns formulas with each operator as an argument of each other one, at every place, and so on for some levels.
func nested(levels int) []api.Formula {
	a, b := is("a", 1), is("b", 0)
	if levels == 0 {
		return []api.Formula{a}
	}
	inner := nested(levels - 1)
	l := slices.Clone(inner)
	for _, op := range operators {
		for _, f := range inner {
			switch arity(op) {
			case 0:
				l = append(l, fields(op)...)
			case 1:
				l = append(l, fields(op, f)...)
			default:
				l = slices.Concat(l, fields(op, f, b), fields(op, b, f), fields(op, f, f))
			}
			if op == api.OpAnd || op == api.OpOr {
				l = append(l, node(op, f, a, b), node(op, a, f, b), node(op, a, b, f), node(op, f, f, f, f))
			}
		}
	}
	return l
}

// P6.1, P6.2: each operator as an argument of each other, and of those in others.
func TestNested(t *testing.T) {
	l := nested(2)
	for _, f := range l {
		formulas.check(t, f)
	}
	for _, f := range some(3000, func(r *rand.Rand) api.Formula { return pick(r, l) }) {
		for _, op := range operators {
			switch arity(op) {
			case 1:
				formulas.check(t, node(op, f))
			case 2:
				formulas.check(t, node(op, f, is("c", 3)))
				formulas.check(t, node(op, is("c", 3), f))
			}
		}
	}
}

// P6.1, P6.2: many formulas, specifications and edits.
func TestDefinition(t *testing.T) {
	for _, f := range someFormulas(4000) {
		formulas.check(t, f)
	}
	for _, s := range some(1500, randomSpec) {
		specs.check(t, s)
	}
	for _, e := range some(2000, randomEdit) {
		edits.check(t, e)
	}
}

// P6.1: wherever a name or a number stands, only names and numbers are printable.
func TestNamesAndNumbers(t *testing.T) {
	a := is("a", 1)
	try := func(name string, n int) {
		t.Helper()
		formulas.check(t, is(name, 1))
		formulas.check(t, is("a", n))
		for _, op := range []int{api.OpSince, api.OpTrigger} {
			formulas.check(t, valued(op, n, a, a))
		}
		for _, op := range []int{api.OpWithin, api.OpDuring} {
			formulas.check(t, bounded(op, n, a))
		}
		for _, x := range []api.Signal{{Name: name, Input: true, Size: 2}, {Name: name, Size: 3}, {Name: "r", Input: true, Size: n}, {Name: "r", Size: n}} {
			specs.check(t, api.Spec{Signals: []api.Signal{x}})
			specs.check(t, api.Spec{Signals: []api.Signal{{Name: "s", Size: 2}, x, {Name: "s", Size: 2}}, Reqs: []api.Req{{Part: "p", Name: "q", Kind: api.Assume, Formula: a}}})
		}
		for _, q := range []api.Req{{Part: name, Name: "q", Kind: api.Assume, Formula: a}, {Part: "p", Name: name, Kind: api.Guarantee, Formula: a}} {
			specs.check(t, api.Spec{Reqs: []api.Req{q}})
			edits.check(t, api.Edit{Kind: api.EditAdd, Req: q})
			edits.check(t, api.Edit{Kind: api.EditReplace, Req: q})
		}
		edits.check(t, api.Edit{Kind: api.EditDrop, Req: api.Req{Name: name}})
	}
	for i := range max(len(names), len(numbers)) {
		try(names[i%len(names)], numbers[i%len(numbers)])
	}
	for _, name := range unnamed {
		try(name, -1)
		formulas.refuses(t, is(name, 1))
		edits.refuses(t, api.Edit{Kind: api.EditDrop, Req: api.Req{Name: name}})
		specs.refuses(t, api.Spec{Signals: []api.Signal{{Name: name, Size: 2}}})
	}
	for _, n := range uncounted {
		try("a", n)
		formulas.refuses(t, is("a", n))
		formulas.refuses(t, bounded(api.OpWithin, n, a))
		specs.refuses(t, api.Spec{Signals: []api.Signal{{Name: "a", Size: n}}})
	}
}

// P6.1: signals of all sizes, in any number, with the same or with different names.
func TestSignals(t *testing.T) {
	specs.prints(t, api.Spec{}, "")
	specs.prints(t, api.Spec{Signals: []api.Signal{}, Reqs: []api.Req{}}, "")
	for size, end := range map[int]string{0: ": 0;\n", 1: ": 1;\n", 2: ";\n", 3: ": 3;\n", 4: ": 4;\n", 12: ": 12;\n", 22: ": 22;\n", 9999: ": 9999;\n"} {
		specs.prints(t, api.Spec{Signals: []api.Signal{{Name: "r", Input: true, Size: size}}}, "input r"+end)
		specs.prints(t, api.Spec{Signals: []api.Signal{{Name: "abcdefghijkl", Size: size}}}, "output abcdefghijkl"+end)
	}
	specs.prints(t, api.Spec{Signals: []api.Signal{{Name: "m", Size: 3}, {Name: "r", Input: true, Size: 2}, {Name: "m", Input: true, Size: 1}, {Name: "m", Size: 2}}}, "output m: 3;\ninput r;\ninput m: 1;\noutput m;\n")
	var many api.Spec
	for i := range 100 {
		many.Signals = append(many.Signals, api.Signal{Name: fmt.Sprint("s", i), Input: i%3 == 0, Size: i})
		specs.check(t, many)
	}
}

// P6.1: a part begins where the Part changes, and only there.
func TestParts(t *testing.T) {
	q := func(part, name string, kind int) api.Req {
		return api.Req{Part: part, Name: name, Kind: kind, Formula: is("x", 1)}
	}
	specs.prints(t, api.Spec{Reqs: []api.Req{q("p", "a", api.Assume)}}, "part p {\n  assume a: x;\n}\n")
	specs.prints(t, api.Spec{Reqs: []api.Req{q("p", "a", api.Assume), q("p", "a", api.Guarantee)}}, "part p {\n  assume a: x;\n  guarantee a: x;\n}\n")
	specs.prints(t, api.Spec{Reqs: []api.Req{q("p", "a", api.Assume), q("q", "a", api.Assume)}}, "part p {\n  assume a: x;\n}\npart q {\n  assume a: x;\n}\n")
	specs.prints(t, api.Spec{Reqs: []api.Req{q("p", "a", api.Assume), q("q", "p", api.Guarantee), q("q", "b", api.Guarantee), q("p", "c", api.Guarantee)}},
		"part p {\n  assume a: x;\n}\npart q {\n  guarantee p: x;\n  guarantee b: x;\n}\npart p {\n  guarantee c: x;\n}\n")
	specs.prints(t, api.Spec{Signals: []api.Signal{{Name: "x", Size: 2}}, Reqs: []api.Req{{Part: "p", Name: "a", Kind: api.Guarantee, Formula: node(api.OpImp, is("x", 1), node(api.OpImp, is("x", 0), node(api.OpTrue)))}}},
		"output x;\npart p {\n  guarantee a: x -> x=0 -> true;\n}\n")
	for parts := range 1 << 12 { // every list of six requirements of up to four parts
		var s api.Spec
		for i := range 6 {
			s.Reqs = append(s.Reqs, q([]string{"p", "q", "pq", "p1"}[parts>>(2*i)&3], "a", 1+i%2))
		}
		specs.prints(t, s, definedSpec(s))
	}
}

// P6.1: an edit that adds or replaces has a requirement; one that drops has only a name.
func TestEdits(t *testing.T) {
	q := api.Req{Part: "p", Name: "g", Kind: api.Guarantee, Formula: node(api.OpImp, is("r", 1), node(api.OpNext, is("g", 0)))}
	u := api.Req{Part: "g", Name: "g", Kind: api.Assume, Formula: node(api.OpTrue)}
	edits.prints(t, api.Edit{Kind: api.EditAdd, Req: q}, "add p guarantee g: r -> X g=0")
	edits.prints(t, api.Edit{Kind: api.EditReplace, Req: q}, "replace p guarantee g: r -> X g=0")
	edits.prints(t, api.Edit{Kind: api.EditAdd, Req: u}, "add g assume g: true")
	edits.prints(t, api.Edit{Kind: api.EditReplace, Req: u}, "replace g assume g: true")
	edits.prints(t, api.Edit{Kind: api.EditDrop, Req: api.Req{Name: "abcdefghijkl"}}, "drop abcdefghijkl")
	edits.prints(t, api.Edit{Kind: api.EditDrop, Req: api.Req{Name: "g", Formula: api.Formula{Args: []api.Formula{}}}}, "drop g")
	for _, kind := range append([]int{0, 4, 5, 12}, uncounted...) {
		edits.refuses(t, api.Edit{Kind: kind, Req: q})
		edits.refuses(t, api.Edit{Kind: kind, Req: api.Req{Name: "g"}})
	}
	for _, change := range []func(q *api.Req){
		func(q *api.Req) { q.Part = "p" },
		func(q *api.Req) { q.Part = " " },
		func(q *api.Req) { q.Kind = api.Assume },
		func(q *api.Req) { q.Kind = api.Guarantee },
		func(q *api.Req) { q.Kind = -1 },
		func(q *api.Req) { q.Formula.Op = api.OpTrue },
		func(q *api.Req) { q.Formula.Op = -1 },
		func(q *api.Req) { q.Formula.Name = "a" },
		func(q *api.Req) { q.Formula.Val = 1 },
		func(q *api.Req) { q.Formula.Val = -1 },
		func(q *api.Req) { q.Formula.Bound = 1 },
		func(q *api.Req) { q.Formula.Bound = -1 },
		func(q *api.Req) { q.Formula.Args = make([]api.Formula, 1) },
		func(q *api.Req) { q.Formula = is("a", 1) },
		func(q *api.Req) { q.Name = "" },
	} {
		d := api.Req{Name: "g"}
		change(&d)
		edits.refuses(t, api.Edit{Kind: api.EditDrop, Req: d})
	}
	edits.refuses(t, api.Edit{})
	edits.refuses(t, api.Edit{Kind: api.EditAdd})
	edits.refuses(t, api.Edit{Kind: api.EditReplace, Req: api.Req{Name: "g"}})
}

// spoiledReqs returns requirements that are not printable, each of which differs from q in one field.
func spoiledReqs(q api.Req) []api.Req {
	var l []api.Req
	change := func(c func(q *api.Req)) {
		x := q
		c(&x)
		l = append(l, x)
	}
	for _, name := range unnamed {
		change(func(q *api.Req) { q.Part = name })
		change(func(q *api.Req) { q.Name = name })
	}
	for _, kind := range append([]int{0, api.Owed, 4}, uncounted...) {
		change(func(q *api.Req) { q.Kind = kind })
	}
	change(func(q *api.Req) { q.Formula = api.Formula{} })
	change(func(q *api.Req) { q.Formula = node(api.OpAnd, is("a", 1)) })
	change(func(q *api.Req) { q.Formula = node(api.OpImp, is("a", 1), is("a", -1)) })
	return l
}

// P6.1: a requirement that is not printable makes specifications and edits so, wherever it stands.
func TestUnprintableReqs(t *testing.T) {
	q := api.Req{Part: "p", Name: "g", Kind: api.Guarantee, Formula: is("a", 1)}
	u := api.Req{Part: "q", Name: "g", Kind: api.Assume, Formula: is("a", 1)}
	for _, x := range append(spoiledReqs(q), spoiledReqs(u)...) {
		for _, reqs := range [][]api.Req{{x}, {x, q}, {q, x}, {u, x, q}, {q, q, u, u, x}, {x, x}} {
			specs.refuses(t, api.Spec{Reqs: reqs})
			specs.refuses(t, api.Spec{Signals: []api.Signal{{Name: "a", Size: 2}}, Reqs: reqs})
		}
		edits.refuses(t, api.Edit{Kind: api.EditAdd, Req: x})
		edits.refuses(t, api.Edit{Kind: api.EditReplace, Req: x})
		edits.refuses(t, api.Edit{Kind: api.EditDrop, Req: x})
	}
	for _, x := range []api.Signal{{}, {Name: "a", Size: -1}, {Name: "a", Size: 10000}, {Name: "A", Size: 2}, {Name: "true", Size: 2}} {
		y := api.Signal{Name: "y", Input: true, Size: 2}
		for _, l := range [][]api.Signal{{x}, {x, y}, {y, x}, {y, y, x}} {
			specs.refuses(t, api.Spec{Signals: l})
			specs.refuses(t, api.Spec{Signals: l, Reqs: []api.Req{q}})
		}
	}
}

// spoiled returns nodes that are not printable, each of which differs from f in one field.
func spoiled(f api.Formula) []api.Formula {
	var l []api.Formula
	change := func(c func(f *api.Formula)) {
		g := copied(f)
		c(&g)
		l = append(l, g)
	}
	for _, op := range append([]int{0, 20, 21, 100}, uncounted...) {
		change(func(f *api.Formula) { f.Op = op })
	}
	badNames, badVals, badBounds := []string{"a", "true", " ", "A"}, append([]int{1, 2, 9999}, uncounted...), append([]int{1, 2, 9999}, uncounted...)
	switch f.Op {
	case api.OpIs:
		badNames, badVals = unnamed, uncounted
	case api.OpSince, api.OpTrigger:
		badVals = uncounted
	case api.OpYesterday:
		badVals = append([]int{2, 3, 9999}, uncounted...)
	case api.OpWithin, api.OpDuring:
		badBounds = uncounted
	}
	for _, name := range badNames {
		change(func(f *api.Formula) { f.Name = name })
	}
	for _, n := range badVals {
		change(func(f *api.Formula) { f.Val = n })
	}
	for _, n := range badBounds {
		change(func(f *api.Formula) { f.Bound = n })
	}
	for n := range f.Args {
		if n < arity(f.Op) {
			change(func(f *api.Formula) { f.Args = f.Args[:n] })
		}
	}
	if f.Op != api.OpAnd && f.Op != api.OpOr {
		change(func(f *api.Formula) { f.Args = append(f.Args, is("a", 1)) })
		change(func(f *api.Formula) { f.Args = append(f.Args, is("a", 1), is("a", 1)) })
	}
	return l
}

// around returns formulas in which f is an argument, at every place in every operator.
func around(f api.Formula) []api.Formula {
	a := is("a", 1)
	l := []api.Formula{node(api.OpAnd, a, a, f), node(api.OpOr, a, f, a)}
	for _, op := range operators {
		switch arity(op) {
		case 1:
			l = append(l, node(op, f))
		case 2:
			l = append(l, node(op, f, a), node(op, a, f), node(op, f, f))
		}
	}
	return l
}

// P6.1: a node that is not printable makes the whole formula so, wherever it stands.
func TestUnprintable(t *testing.T) {
	a := is("a", 1)
	r := rand.New(rand.NewSource(7))
	formulas.refuses(t, api.Formula{})
	formulas.refuses(t, api.Formula{Args: []api.Formula{a}})
	var l []api.Formula
	for _, op := range operators {
		for _, f := range fields(op, []api.Formula{a, a}[:arity(op)]...) {
			formulas.check(t, f)
			l = append(l, spoiled(f)...)
		}
	}
	whole := someFormulas(300)
	for i, x := range l {
		formulas.refuses(t, x)
		for _, f := range around(x) {
			formulas.refuses(t, f)
		}
		f := copied(whole[i%len(whole)])
		n := r.Intn(formula.Size(f))
		each(&f, func(g *api.Formula) {
			if n == 0 {
				*g = x
			}
			n--
		})
		formulas.refuses(t, f)
		q := api.Req{Part: "p", Name: "g", Kind: api.Guarantee, Formula: f}
		specs.refuses(t, api.Spec{Reqs: []api.Req{{Part: "p", Name: "g", Kind: api.Assume, Formula: a}, q}})
		edits.refuses(t, api.Edit{Kind: api.EditAdd, Req: q})
		edits.refuses(t, api.Edit{Kind: api.EditReplace, Req: q})
	}
}

// P6.1: formulas with a changed node, printable or not.
func TestChanged(t *testing.T) {
	r := rand.New(rand.NewSource(8))
	ops, vals := append([]int{-1, 0, 20}, operators...), []int{-1, 0, 1, 2, 3, 9999, 10000}
	for _, f := range someFormulas(2000) {
		f = copied(f)
		n := r.Intn(formula.Size(f))
		each(&f, func(g *api.Formula) {
			if n == 0 {
				switch r.Intn(5) {
				case 0:
					g.Op = pick(r, ops)
				case 1:
					g.Name = pick(r, append(names, unnamed...))
				case 2:
					g.Val = pick(r, vals)
				case 3:
					g.Bound = pick(r, vals)
				case 4:
					g.Args = g.Args[:r.Intn(len(g.Args)+1)]
				}
			}
			n--
		})
		formulas.check(t, f)
	}
}

// repeated returns a formula with an operator before it, n times.
func repeated(op, n int, f api.Formula) api.Formula {
	for range n {
		f = node(op, f)
	}
	return f
}

// long returns a formula with a text of n bytes and few tokens.
func long(n int) api.Formula {
	f := api.Formula{Op: api.OpAnd}
	for n > 27 {
		f.Args = append(f.Args, is("abcdefghijkl", 1))
		n -= len("abcdefghijkl & ")
	}
	n -= len(" & ")
	first, last := n/2, n-n/2
	f.Args = append(f.Args, is("abcdefghijkl"[:first], 1), is("abcdefghijkl"[:last], 1))
	return f
}

// P6.2: texts are parsed to their items on one side of the limits of the lexer, and are printed on both.
func TestLimits(t *testing.T) {
	a := is("a", 1)
	q := func(f api.Formula) api.Req {
		return api.Req{Part: "p", Name: "g", Kind: api.Assume, Formula: f}
	}
	sides(t, formulas, "bytes", func(n int) api.Formula { return long(n) }, 0)
	sides(t, specs, "bytes", func(n int) api.Spec { return api.Spec{Reqs: []api.Req{q(long(n))}} }, len("part p {\n  assume g: ;\n}\n"))
	sides(t, edits, "bytes", func(n int) api.Edit { return api.Edit{Kind: api.EditAdd, Req: q(long(n))} }, len("add p assume g: "))
	sides(t, formulas, "tokens", func(n int) api.Formula { return repeated(api.OpNot, n-1, a) }, 0)
	sides(t, specs, "tokens", func(n int) api.Spec { return api.Spec{Reqs: []api.Req{q(repeated(api.OpNext, n-1, a))}} }, 8)
	sides(t, edits, "tokens", func(n int) api.Edit { return api.Edit{Kind: api.EditReplace, Req: q(repeated(api.OpNot, n-1, a))} }, 5)
	signals := func(n int) api.Spec {
		s := api.Spec{Signals: slices.Repeat([]api.Signal{{Name: "a", Input: true, Size: 2}}, 666)} // nine bytes each
		s.Signals[0].Name = "abcdefghijkl"[:1+n-666*9]
		return s
	}
	sides(t, specs, "bytes", signals, 0)
}

// sides checks items of a size just within and just beyond a limit: of the size n, but for what is around it.
func sides[T any](t *testing.T, k kind[T], limit string, item func(n int) T, around int) {
	t.Helper()
	most := map[string]int{"bytes": api.MaxSource, "tokens": api.MaxTokens}[limit]
	for n := most - 3; n <= most+3; n++ {
		x := item(n - around)
		text := k.print(x)
		k.prints(t, x, k.defined(x))
		size := len(text)
		if limit == "tokens" {
			size = len(strings.FieldsFunc(strings.NewReplacer("!", "! ", ":", " :", ";", " ;", "{", " {").Replace(text), func(c rune) bool { return c == ' ' || c == '\n' }))
		}
		if size != n {
			t.Errorf("%s: %d %s instead of %d", k.name, size, limit, n)
		}
		if k.inverse(t, x) != (n <= most) {
			t.Errorf("%s with %d %s", k.name, n, limit)
		}
	}
}

// loose returns a text that is parsed to a printable formula, with parentheses, indices and values that need not be there.
func loose(r *rand.Rand, f api.Formula) string {
	if f.Op == api.OpNot && f.Args[0].Op == api.OpIs && r.Intn(2) == 0 {
		return fmt.Sprintf("(%s != %d)", f.Args[0].Name, f.Args[0].Val)
	}
	_, rest := plan(f)
	if r.Intn(2) == 0 {
		rest = strings.NewReplacer(" S ", " S[0] ", " T ", " T [1]", " ", "  ").Replace(rest)
	}
	if f.Op == api.OpIs && f.Val == 1 && r.Intn(2) == 0 {
		rest += "=1"
	}
	var b strings.Builder
	for _, g := range f.Args {
		i := strings.Index(rest, "<")
		in := loose(r, g)
		if level, _ := plan(g); level < int(rest[i+1]-'0') || r.Intn(3) == 0 {
			in = "(" + in + " % in\n)"
		}
		b.WriteString(rest[:i] + in)
		rest = rest[i+3:]
	}
	return b.String() + strings.TrimSuffix(rest, ";")
}

func looseReq(r *rand.Rand, q api.Req) string {
	return []string{api.Assume: "assume ", api.Guarantee: "guarantee "}[q.Kind] + q.Name + ":" + loose(r, q.Formula)
}

// looseSpec returns a text that is parsed to a printable specification, with parts and sizes that need not be there.
func looseSpec(r *rand.Rand, s api.Spec) string {
	text := "% signals\n"
	for _, x := range s.Signals {
		text += fmt.Sprintf("%s %s:%d ; ", map[bool]string{true: "input", false: "output"}[x.Input], x.Name, x.Size)
	}
	for _, q := range s.Reqs {
		if r.Intn(2) == 0 {
			text += "part none {} "
		}
		text += "part " + q.Part + " { " + looseReq(r, q) + ";}"
	}
	return text
}

func looseEdit(r *rand.Rand, e api.Edit) string {
	switch e.Kind {
	case api.EditDrop:
		return " drop\t" + e.Req.Name + "%"
	case api.EditAdd:
		return "add\n" + e.Req.Part + " " + looseReq(r, e.Req)
	}
	return "replace\r" + e.Req.Part + "  " + looseReq(r, e.Req)
}

// canonical checks that what a text is parsed to, if it is, is printable, and that its text is parsed to the same.
func canonical[T any](t *testing.T, k kind[T], text string) {
	t.Helper()
	item, e, _ := k.parse(text)
	if e != api.OK {
		return
	}
	printed := k.print(item)
	var none T
	if printed == "" && !k.equal(item, none) || printed != k.defined(item) {
		t.Errorf("%s %.300q: %.300s is printed as %.300q", k.name, text, fmt.Sprint(item), printed)
	}
	if k.inverse(t, item) {
		again, _, _ := k.parse(printed)
		k.prints(t, again, printed)
	}
}

// P6.3: whatever is parsed is printable, and what is printed is parsed to the same.
func TestCanonical(t *testing.T) {
	r := rand.New(rand.NewSource(9))
	words := strings.Fields("a b true false 0 1 2 9999 ( ) [ ] { } ; : = != ! & | -> U R S T X Y Z O H F G input output part assume guarantee add drop replace")
	vary := func(text string) string {
		var l []string
		tokens, _, _ := lexer.Lex(text)
		for _, x := range tokens {
			l = append(l, x.Text)
		}
		for range r.Intn(3) {
			i := r.Intn(len(l) + 1)
			l = slices.Replace(l, i, min(len(l), i+r.Intn(2)), pick(r, words))
		}
		return strings.Join(l, " ")
	}
	for _, f := range someFormulas(1500) {
		text := loose(r, f)
		if got, e, _ := parser.Formula(text); len(text) < api.MaxSource && (e != api.OK || !sameFormula(got, f)) {
			t.Errorf("%q: %d", text, e)
		}
		canonical(t, formulas, text)
		canonical(t, formulas, vary(text))
		canonical(t, formulas, vary(defined(f)))
	}
	for _, s := range some(800, randomSpec) {
		text := looseSpec(r, s)
		if got, e, _ := parser.Spec(text); len(text) < api.MaxSource && (e != api.OK || !sameSpec(got, s)) {
			t.Errorf("%q: %d", text, e)
		}
		canonical(t, specs, text)
		canonical(t, specs, vary(text))
	}
	for _, e := range some(1000, randomEdit) {
		canonical(t, edits, looseEdit(r, e))
		canonical(t, edits, vary(looseEdit(r, e)))
	}
	for _, text := range []string{"", "a", "((a))", "a != 1", "!a != 1", "!!a", "a = 1", "a=0", "a S[0] b", "a T[1] b", "a T[0] b S[1] c", "F[0] a", "(a & b) & c", "a & (b & c)", "((a & b) | c)", "a -> (b -> c)", "(a -> b) -> c", "a U (b U c)", "(a U b) U c", "X(a)", "G(a -> (F b))", "part p {}", "input a: 2;", "part p {} part p { assume a: x; } part p { assume a: x; }", "drop a", "add p assume a: (x)"} {
		canonical(t, formulas, text)
		canonical(t, specs, text)
		canonical(t, edits, text)
	}
}

// P6.4: different printable items of a kind have different texts.
func TestDifferences(t *testing.T) {
	formulas.distinct(t, append(nested(2), someFormulas(2000)...))
	l := nested(1)
	small := func(r *rand.Rand) api.Req {
		return api.Req{Part: pick(r, names[:2]), Name: pick(r, names[:2]), Kind: 1 + r.Intn(2), Formula: pick(r, l)}
	}
	edits.distinct(t, some(3000, func(r *rand.Rand) api.Edit {
		if r.Intn(8) == 0 {
			return api.Edit{Kind: api.EditDrop, Req: api.Req{Name: pick(r, names)}}
		}
		return api.Edit{Kind: pick(r, []int{api.EditAdd, api.EditReplace}), Req: small(r)}
	}))
	specs.distinct(t, some(3000, func(r *rand.Rand) api.Spec {
		var s api.Spec
		for range r.Intn(3) {
			s.Signals = append(s.Signals, api.Signal{Name: pick(r, names[:2]), Input: r.Intn(2) == 0, Size: r.Intn(4)})
		}
		for range r.Intn(3) {
			s.Reqs = append(s.Reqs, small(r))
		}
		return s
	}))
}

// without returns the texts that a text is without one pair of parentheses.
func without(text string) []string {
	var open []int
	var l []string
	for i, c := range text {
		switch c {
		case '(':
			open = append(open, i)
		case ')':
			first := open[len(open)-1]
			open = open[:len(open)-1]
			l = append(l, text[:first]+text[first+1:i]+text[i+1:])
		}
	}
	return l
}

// P6.5: without a pair of its parentheses, the text of a formula is not parsed to it.
func TestParentheses(t *testing.T) {
	pairs := 0
	for _, f := range append(nested(2), someFormulas(3000)...) {
		for _, text := range without(printer.Formula(f)) {
			pairs++
			if g, e, _ := parser.Formula(text); e == api.OK && sameFormula(f, g) {
				t.Errorf("%q is parsed to the formula of %q", text, printer.Formula(f))
			}
		}
	}
	if pairs < 10000 {
		t.Errorf("only %d pairs", pairs)
	}
}

// P6.6: the text of a formula contains those of its arguments, in order.
func TestArguments(t *testing.T) {
	for _, f := range append(nested(2), someFormulas(2000)...) {
		each(&f, func(g *api.Formula) {
			rest := printer.Formula(*g)
			for _, arg := range g.Args {
				in := printer.Formula(arg)
				i := strings.Index(rest, in)
				if i < 0 || in == "" {
					t.Fatalf("%q: no %q in order", printer.Formula(*g), in)
				}
				rest = rest[i+len(in):]
			}
		})
	}
}

// P6.6: the text of a specification, followed by that of one without signals, is parsed to the requirements of both.
func TestAppended(t *testing.T) {
	l := some(600, randomSpec)
	for i, s := range l {
		u := api.Spec{Reqs: l[(i*7+1)%len(l)].Reqs}
		text := printer.Spec(s) + printer.Spec(u)
		if len(text) > api.MaxSource {
			continue
		}
		got, e, at := parser.Spec(text)
		if e != api.OK || at != -1 || !sameSpec(got, api.Spec{Signals: s.Signals, Reqs: slices.Concat(s.Reqs, u.Reqs)}) {
			t.Errorf("%q: %v %d %d", text, got, e, at)
		}
	}
}

// P6.7: a specification has a line for each signal and requirement, and two for each sequence of requirements with the same Part.
func TestLines(t *testing.T) {
	for _, s := range some(1000, randomSpec) {
		want := len(s.Signals) + len(s.Reqs)
		part := ""
		for _, q := range s.Reqs {
			if q.Part != part {
				want += 2
			}
			part = q.Part
		}
		text := printer.Spec(s)
		if got := strings.Count(text, "\n"); got != want || text != "" && !strings.HasSuffix(text, "\n") || strings.Contains(text, "\n\n") {
			t.Errorf("%q: %d lines, want %d", text, got, want)
		}
	}
}

// P1: formulas that are long or deep are printed like others, or refused.
func TestLarge(t *testing.T) {
	const n = 1 << 16
	a, bad := is("a", 1), is("a", -1)
	formulas.prints(t, repeated(api.OpNot, n, a), strings.Repeat("!", n)+"a")
	formulas.prints(t, repeated(api.OpNext, n, a), strings.Repeat("X ", n)+"a")
	formulas.prints(t, repeated(api.OpNot, n, bad), "")
	left, right := a, a
	for range n {
		left, right = node(api.OpUntil, left, a), node(api.OpImp, a, right)
	}
	formulas.prints(t, left, strings.Repeat("(", n-1)+"a U a"+strings.Repeat(") U a", n-1))
	formulas.prints(t, right, strings.Repeat("a -> ", n)+"a")
	wide := node(api.OpOr, slices.Repeat([]api.Formula{a}, n)...)
	formulas.prints(t, wide, strings.Repeat("a | ", n-1)+"a")
	wide.Args[n-1] = bad
	formulas.prints(t, wide, "")
	var s api.Spec
	for i := range n {
		s.Signals = append(s.Signals, api.Signal{Name: "a", Size: 2})
		s.Reqs = append(s.Reqs, api.Req{Part: names[i%2], Name: "a", Kind: api.Assume, Formula: a})
	}
	specs.prints(t, s, strings.Repeat("output a;\n", n)+strings.Repeat("part a {\n  assume a: a;\n}\npart b {\n  assume a: a;\n}\n", n/2))
	s.Reqs[n-1].Formula = bad
	specs.prints(t, s, "")
}

// wild returns any formula.
func wild(r *rand.Rand, depth int) api.Formula {
	n := func() int {
		if r.Intn(3) > 0 {
			return 0
		}
		return pick(r, append(numbers, uncounted...))
	}
	f := api.Formula{Op: r.Intn(22) - 1, Name: pick(r, append(unnamed, "", "a")), Val: n(), Bound: n()}
	for range r.Intn(4) {
		if depth > 0 {
			f.Args = append(f.Args, wild(r, depth-1))
		}
	}
	return f
}

// P1: no arguments lead to a panic.
func TestAnyArguments(t *testing.T) {
	r := rand.New(rand.NewSource(10))
	for range 20000 {
		f := wild(r, 4)
		q := api.Req{Part: pick(r, append(unnamed, "p")), Name: pick(r, append(unnamed, "p")), Kind: r.Intn(5) - 1, Formula: f}
		formulas.check(t, f)
		edits.check(t, api.Edit{Kind: r.Intn(6) - 1, Req: q})
		specs.check(t, api.Spec{Signals: []api.Signal{{Name: pick(r, append(unnamed, "p")), Size: pick(r, uncounted)}}[:r.Intn(2)], Reqs: []api.Req{q, q}[:r.Intn(3)]})
	}
}

// P3: equal arguments yield equal texts, and are left as they are.
func TestIndependence(t *testing.T) {
	for _, s := range some(300, randomSpec) {
		u := api.Spec{Signals: slices.Clone(s.Signals), Reqs: slices.Clone(s.Reqs)}
		for j, q := range s.Reqs {
			u.Reqs[j].Formula = copied(q.Formula)
		}
		text := printer.Spec(s)
		specs.prints(t, u, text)
		specs.prints(t, s, text)
		if !sameSpec(s, u) {
			t.Errorf("%v has been changed to %v", u, s)
		}
		for _, q := range s.Reqs {
			f := copied(q.Formula)
			formulas.prints(t, f, printer.Formula(q.Formula))
			edits.prints(t, api.Edit{Kind: api.EditAdd, Req: api.Req{Part: q.Part, Name: q.Name, Kind: q.Kind, Formula: f}}, printer.Edit(api.Edit{Kind: api.EditAdd, Req: q}))
			if !sameFormula(f, q.Formula) {
				t.Errorf("%v has been changed to %v", q.Formula, f)
			}
		}
	}
}
