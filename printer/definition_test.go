package printer_test

import (
	"fmt"
	"math/rand"
	"regexp"
	"slices"
	"strings"

	"foresight/api"
	"foresight/formula"
)

var (
	nameForm = regexp.MustCompile(`^[a-z][a-z0-9_]{0,11}$`)
	keyWords = []string{"input", "output", "part", "assume", "guarantee", "true", "false", "add", "drop", "replace"}
)

// names are names, also the longest ones and those that begin like key words; unnamed are none.
var (
	names   = []string{"a", "b", "c", "p", "g", "u", "x", "a_1", "z9", "a__", "inputs", "in", "partx", "trues", "owed", "abcdefghijkl", "a23456789_12"}
	unnamed = slices.Concat(keyWords, []string{"", "A", "X", "Fa", "aB", "1", "1a", "_", "_a", "abcdefghijklm", "a23456789_123", " ", "a ", " a", "a b", "a-b", "a;", "(a)", "a=1", "a\n", "\x00", "a\x00", "é", "aé", "a\xff"})
)

// numbers are numbers, also the least and the greatest one; uncounted are none.
var (
	numbers   = []int{0, 1, 2, 3, 4, 7, 9, 10, 12, 99, 100, 1000, 9998, 9999}
	uncounted = []int{-1 << 63, -10000, -9999, -2, -1, 10000, 10001, 99999, 1 << 32, 1<<32 + 1, 1<<63 - 1}
)

// operators are all operators.
var operators = []int{
	api.OpTrue, api.OpFalse, api.OpIs, api.OpNot, api.OpAnd, api.OpOr, api.OpImp, api.OpNext, api.OpUntil, api.OpRelease,
	api.OpFinally, api.OpGlobally, api.OpWithin, api.OpDuring, api.OpYesterday, api.OpSince, api.OpTrigger, api.OpOnce, api.OpHistorically,
}

func isName(s string) bool { return nameForm.MatchString(s) && !slices.Contains(keyWords, s) }

func isNumber(n int) bool { return n >= 0 && n <= 9999 }

// printable is the definition of printable formulas: its nodes are those of layer 3, but for the limits of numbers.
func printable(f api.Formula) bool {
	node := api.Formula{Op: f.Op, Name: f.Name, Val: f.Val, Bound: f.Bound, Args: make([]api.Formula, min(len(f.Args), 3))}
	for i := range node.Args {
		node.Args[i].Op = api.OpTrue
	}
	switch f.Op {
	case api.OpIs, api.OpSince, api.OpTrigger:
		if isNumber(f.Val) {
			node.Val = 0
		}
	case api.OpWithin, api.OpDuring:
		if isNumber(f.Bound) {
			node.Bound = 0
		}
	}
	return formula.Valid(node) && !slices.ContainsFunc(f.Args, func(g api.Formula) bool { return !printable(g) })
}

// plan returns the level of a printable formula, and its text, in which <n> stands for the next argument of the level n.
func plan(f api.Formula) (int, string) {
	index := ""
	if f.Op == api.OpSince && f.Val != 0 || f.Op == api.OpTrigger && f.Val != 1 {
		index = fmt.Sprintf("[%d]", f.Val)
	}
	switch f.Op {
	case api.OpImp:
		return 0, "<1> -> <0>"
	case api.OpOr:
		return 1, "<2>" + strings.Repeat(" | <2>", len(f.Args)-1)
	case api.OpAnd:
		return 2, "<3>" + strings.Repeat(" & <3>", len(f.Args)-1)
	case api.OpUntil:
		return 3, "<4> U <3>"
	case api.OpRelease:
		return 3, "<4> R <3>"
	case api.OpSince:
		return 3, "<4> S" + index + " <3>"
	case api.OpTrigger:
		return 3, "<4> T" + index + " <3>"
	case api.OpNot:
		return 4, "!<4>"
	case api.OpNext, api.OpOnce, api.OpHistorically, api.OpFinally, api.OpGlobally:
		return 4, map[int]string{api.OpNext: "X", api.OpOnce: "O", api.OpHistorically: "H", api.OpFinally: "F", api.OpGlobally: "G"}[f.Op] + " <4>"
	case api.OpYesterday:
		return 4, []string{"Y", "Z"}[f.Val] + " <4>"
	case api.OpWithin:
		return 4, fmt.Sprintf("F[%d] <4>", f.Bound)
	case api.OpDuring:
		return 4, fmt.Sprintf("G[%d] <4>", f.Bound)
	case api.OpTrue:
		return 5, "true"
	case api.OpFalse:
		return 5, "false"
	case api.OpIs:
		return 5, strings.TrimSuffix(fmt.Sprintf("%s=%d;", f.Name, f.Val), "=1;")
	}
	panic(fmt.Sprint("no operator: ", f.Op))
}

// textOf is the definition of the text of a printable formula.
func textOf(f api.Formula) string {
	_, rest := plan(f)
	text := ""
	for _, g := range f.Args {
		i := strings.Index(rest, "<")
		in := textOf(g)
		if level, _ := plan(g); level < int(rest[i+1]-'0') {
			in = "(" + in + ")"
		}
		text += rest[:i] + in
		rest = rest[i+3:]
	}
	return text + strings.TrimSuffix(rest, ";")
}

// defined is the definition of what is printed for a formula.
func defined(f api.Formula) string {
	if !printable(f) {
		return ""
	}
	return textOf(f)
}

func printableReq(q api.Req) bool {
	return (q.Kind == api.Assume || q.Kind == api.Guarantee) && isName(q.Name) && isName(q.Part) && printable(q.Formula)
}

func textOfReq(q api.Req) string {
	return []string{api.Assume: "assume ", api.Guarantee: "guarantee "}[q.Kind] + q.Name + ": " + textOf(q.Formula)
}

// definedSpec is the definition of what is printed for a specification.
func definedSpec(s api.Spec) string {
	var lines []string
	for _, x := range s.Signals {
		if !isName(x.Name) || !isNumber(x.Size) {
			return ""
		}
		line := fmt.Sprintf("%s %s: %d;", map[bool]string{true: "input", false: "output"}[x.Input], x.Name, x.Size)
		lines = append(lines, strings.Replace(line, ": 2;", ";", 1))
	}
	for i, q := range s.Reqs {
		if !printableReq(q) {
			return ""
		}
		if i > 0 && s.Reqs[i-1].Part != q.Part {
			lines = append(lines, "}")
		}
		if i == 0 || s.Reqs[i-1].Part != q.Part {
			lines = append(lines, "part "+q.Part+" {")
		}
		lines = append(lines, "  "+textOfReq(q)+";")
	}
	if len(s.Reqs) > 0 {
		lines = append(lines, "}")
	}
	return strings.Join(append(lines, ""), "\n")
}

// definedEdit is the definition of what is printed for an edit.
func definedEdit(e api.Edit) string {
	words := map[int]string{api.EditAdd: "add ", api.EditReplace: "replace "}
	switch {
	case words[e.Kind] != "" && printableReq(e.Req):
		return words[e.Kind] + e.Req.Part + " " + textOfReq(e.Req)
	case e.Kind == api.EditDrop && isName(e.Req.Name) && sameReq(e.Req, api.Req{Name: e.Req.Name}):
		return "drop " + e.Req.Name
	}
	return ""
}

func sameFormula(f, g api.Formula) bool {
	return f.Op == g.Op && f.Name == g.Name && f.Val == g.Val && f.Bound == g.Bound && slices.EqualFunc(f.Args, g.Args, sameFormula)
}

func sameReq(q, r api.Req) bool {
	return q.Part == r.Part && q.Name == r.Name && q.Kind == r.Kind && sameFormula(q.Formula, r.Formula)
}

func sameSpec(s, u api.Spec) bool {
	return slices.Equal(s.Signals, u.Signals) && slices.EqualFunc(s.Reqs, u.Reqs, sameReq)
}

func sameEdit(d, e api.Edit) bool { return d.Kind == e.Kind && sameReq(d.Req, e.Req) }

func node(op int, args ...api.Formula) api.Formula { return api.Formula{Op: op, Args: args} }

func valued(op, val int, args ...api.Formula) api.Formula {
	return api.Formula{Op: op, Val: val, Args: args}
}

func bounded(op, bound int, f api.Formula) api.Formula {
	return api.Formula{Op: op, Bound: bound, Args: []api.Formula{f}}
}

func is(name string, val int) api.Formula { return api.Formula{Op: api.OpIs, Name: name, Val: val} }

// arity returns the least number of arguments of an operator.
func arity(op int) int {
	switch op {
	case api.OpTrue, api.OpFalse, api.OpIs:
		return 0
	case api.OpAnd, api.OpOr, api.OpImp, api.OpUntil, api.OpRelease, api.OpSince, api.OpTrigger:
		return 2
	}
	return 1
}

// fields returns some printable nodes with an operator and arguments: all that differ in what is written for their fields.
func fields(op int, args ...api.Formula) []api.Formula {
	var l []api.Formula
	switch op {
	case api.OpIs:
		for _, n := range []int{0, 1, 2, 9999} {
			l = append(l, is("a", n), is("b", n))
		}
	case api.OpYesterday:
		l = append(l, valued(op, 0, args...), valued(op, 1, args...))
	case api.OpSince, api.OpTrigger:
		for _, n := range []int{0, 1, 2, 9999} {
			l = append(l, valued(op, n, args...))
		}
	case api.OpWithin, api.OpDuring:
		for _, n := range []int{0, 1, 9999} {
			l = append(l, bounded(op, n, args[0]))
		}
	default:
		l = append(l, node(op, args...))
	}
	return l
}

// pick returns an element of a list.
func pick[T any](r *rand.Rand, l []T) T { return l[r.Intn(len(l))] }

// randomFormula returns a printable formula with about so many nodes.
func randomFormula(r *rand.Rand, nodes int) api.Formula {
	op := pick(r, operators)
	for nodes > 1 && arity(op) == 0 || nodes <= 1 && arity(op) > 0 {
		op = pick(r, operators)
	}
	f := api.Formula{Op: op}
	n := arity(op)
	switch op {
	case api.OpIs:
		f.Name, f.Val = pick(r, names), 1
		if r.Intn(2) == 0 {
			f.Val = pick(r, numbers)
		}
	case api.OpAnd, api.OpOr:
		n += r.Intn(3)
	case api.OpSince, api.OpTrigger:
		f.Val = r.Intn(2)
		if r.Intn(3) == 0 {
			f.Val = pick(r, numbers)
		}
	case api.OpYesterday:
		f.Val = r.Intn(2)
	case api.OpWithin, api.OpDuring:
		f.Bound = pick(r, numbers)
	}
	for i := range n {
		share := (nodes - 1) / (n - i)
		if i+1 < n && share > 1 {
			share = 1 + r.Intn(2*share-1)
		}
		nodes -= share
		f.Args = append(f.Args, randomFormula(r, share))
	}
	return f
}

func randomReq(r *rand.Rand) api.Req {
	return api.Req{Part: pick(r, names[:3]), Name: pick(r, names), Kind: 1 + r.Intn(2), Formula: randomFormula(r, 1+r.Intn(20))}
}

func randomSpec(r *rand.Rand) api.Spec {
	var s api.Spec
	for range r.Intn(6) {
		x := api.Signal{Name: pick(r, names), Input: r.Intn(2) == 0, Size: 2}
		if r.Intn(2) == 0 {
			x.Size = pick(r, numbers)
		}
		s.Signals = append(s.Signals, x)
	}
	for range r.Intn(8) {
		s.Reqs = append(s.Reqs, randomReq(r))
	}
	return s
}

func randomEdit(r *rand.Rand) api.Edit {
	switch r.Intn(5) {
	case 0:
		return api.Edit{Kind: api.EditDrop, Req: api.Req{Name: pick(r, names)}}
	case 1, 2:
		return api.Edit{Kind: api.EditAdd, Req: randomReq(r)}
	}
	return api.Edit{Kind: api.EditReplace, Req: randomReq(r)}
}

// some returns items. They are always the same.
func some[T any](n int, random func(r *rand.Rand) T) []T {
	r := rand.New(rand.NewSource(6))
	var l []T
	for range n {
		l = append(l, random(r))
	}
	return l
}

func someFormulas(n int) []api.Formula {
	return some(n, func(r *rand.Rand) api.Formula { return randomFormula(r, 1+r.Intn(40)) })
}

// copied returns a formula that shares no memory with f, and has room behind its arguments.
func copied(f api.Formula) api.Formula {
	f.Name = strings.Clone(f.Name)
	args := make([]api.Formula, 0, len(f.Args)+2)
	for _, g := range f.Args {
		args = append(args, copied(g))
	}
	f.Args = args
	return f
}

// each calls visit with every node of a formula.
func each(f *api.Formula, visit func(f *api.Formula)) {
	visit(f)
	for i := range f.Args {
		each(&f.Args[i], visit)
	}
}
