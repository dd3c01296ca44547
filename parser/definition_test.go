package parser_test

import (
	"fmt"
	"regexp"
	"slices"
	"strconv"
	"strings"
	"testing"

	"foresight/api"
	"foresight/lexer"
	"foresight/parser"
)

// rules is the grammar: each line is a symbol and what it can stand for. The first line of each symbol leads to an end.
const rules = `
<spec> <signals> <parts>
<signals>
<signals> <signal> <signals>
<signal> <way> NAME <size> ;
<way> input
<way> output
<size>
<size> : NUMBER
<parts>
<parts> <part> <parts>
<part> part NAME { <entries> }
<entries>
<entries> <requirement> ; <entries>
<requirement> <sort> NAME : <formula>
<sort> assume
<sort> guarantee
<edit> drop NAME
<edit> <change> NAME <requirement>
<change> add
<change> replace
<formula> <or> <implied>
<implied>
<implied> -> <formula>
<or> <and> <ors>
<ors>
<ors> | <and> <ors>
<and> <until> <ands>
<ands>
<ands> & <until> <ands>
<until> <unary> <later>
<later>
<later> <between> <until>
<between> U
<between> R
<between> S <index>
<between> T <index>
<unary> <primary>
<unary> ! <unary>
<unary> X <unary>
<unary> Y <unary>
<unary> Z <unary>
<unary> O <unary>
<unary> H <unary>
<unary> F <index> <unary>
<unary> G <index> <unary>
<index>
<index> [ NUMBER ]
<primary> NAME <compared>
<primary> true
<primary> false
<primary> ( <formula> )
<compared>
<compared> = NUMBER
<compared> != NUMBER
`

// grammar has the alternatives of each symbol.
var grammar = func() map[string][][]string {
	g := map[string][][]string{}
	for line := range strings.Lines(strings.TrimSpace(rules)) {
		symbols := strings.Fields(line)
		g[symbols[0]] = append(g[symbols[0]], symbols[1:])
	}
	return g
}()

var (
	nameForm = regexp.MustCompile(`^[a-z][a-z0-9_]{0,11}$`)
	keyWords = []string{"input", "output", "part", "assume", "guarantee", "true", "false", "add", "drop", "replace"}
)

// fits reports whether a token is one that a symbol without alternatives stands for.
func fits(symbol string, x api.Token) bool {
	switch symbol {
	case "NAME":
		return x.Kind == api.TokenName && nameForm.MatchString(x.Text) && !slices.Contains(keyWords, x.Text)
	case "NUMBER":
		return x.Kind == api.TokenNumber
	}
	return x.Kind != api.TokenNumber && x.Text == symbol
}

// rest is what can follow in a text: a symbol, and then the others; nil if nothing has to follow.
type rest struct {
	symbol string
	then   *rest
}

// unfold returns the rests with a token, or without any, at their beginning that a rest stands for.
func unfold(r *rest) []*rest {
	if r == nil || grammar[r.symbol] == nil {
		return []*rest{r}
	}
	var l []*rest
	for _, symbols := range grammar[r.symbol] {
		next := r.then
		for _, s := range slices.Backward(symbols) {
			next = &rest{s, next}
		}
		l = append(l, unfold(next)...)
	}
	return l
}

// after returns the rests behind a token, of which there are none if it is wrong.
func after(l []*rest, x api.Token) []*rest {
	var behind []*rest
	for _, r := range l {
		for _, s := range unfold(r) {
			if s != nil && fits(s.symbol, x) {
				behind = append(behind, s.then)
			}
		}
	}
	return behind
}

// mayEnd reports whether the text can end where some rests can follow.
func mayEnd(l []*rest) bool {
	for _, r := range l {
		if slices.Contains(unfold(r), nil) {
			return true
		}
	}
	return false
}

// kind is a kind of items, with its symbol of the grammar.
type kind[T any] struct {
	symbol string
	parse  func(text string) (T, api.Errno, int)
	value  func(l []string) T // the item that the texts of some tokens are
	equal  func(x, y T) bool
}

var (
	specs    = kind[api.Spec]{"<spec>", parser.Spec, specOf, sameSpec}
	formulas = kind[api.Formula]{"<formula>", parser.Formula, formulaOf, sameFormula}
	edits    = kind[api.Edit]{"<edit>", parser.Edit, editOf, sameEdit}
)

// defined is the definition of what a text of a kind is parsed to.
func (k kind[T]) defined(text string) (item T, e api.Errno, at int) {
	tokens, e, at := lexer.Lex(text)
	if e != api.OK {
		return item, e, at
	}
	l := []*rest{{symbol: k.symbol}}
	var words []string
	for _, x := range tokens {
		if l = after(l, x); len(l) == 0 {
			return item, api.ErrSyntax, x.At
		}
		words = append(words, x.Text)
	}
	if !mayEnd(l) {
		return item, api.ErrEnd, len(text)
	}
	return k.value(words), api.OK, -1
}

// check compares what a text is parsed to with the definition.
func (k kind[T]) check(t *testing.T, text string) {
	t.Helper()
	item, e, at := k.defined(text)
	k.expect(t, text, item, e, at)
}

func (k kind[T]) expect(t *testing.T, text string, item T, e api.Errno, at int) {
	t.Helper()
	got, gotE, gotAt := k.parse(text)
	if !k.equal(got, item) || gotE != e || gotAt != at {
		t.Errorf("%s %.200q (%d bytes): got %.300s %d %d, want %.300s %d %d", k.symbol, text, len(text), fmt.Sprint(got), gotE, gotAt, fmt.Sprint(item), e, at)
	}
}

func (k kind[T]) found(t *testing.T, text string, item T) {
	t.Helper()
	k.expect(t, text, item, api.OK, -1)
}

func (k kind[T]) refused(t *testing.T, text string, e api.Errno, at int) {
	t.Helper()
	var none T
	k.expect(t, text, none, e, at)
}

// must returns the item of a text that has one.
func (k kind[T]) must(t *testing.T, text string) T {
	t.Helper()
	item, e, at := k.parse(text)
	if e != api.OK || at != -1 {
		t.Errorf("%s %.200q: %d %d", k.symbol, text, e, at)
	}
	return item
}

func sameFormula(f, g api.Formula) bool {
	return f.Op == g.Op && f.Name == g.Name && f.Val == g.Val && f.Bound == g.Bound && slices.EqualFunc(f.Args, g.Args, sameFormula)
}

func sameReq(q, r api.Req) bool {
	return q.Part == r.Part && q.Name == r.Name && q.Kind == r.Kind && sameFormula(q.Formula, r.Formula)
}

func sameSpec(s, u api.Spec) bool {
	return slices.Equal(s.Signals, u.Signals) && slices.EqualFunc(s.Reqs, u.Reqs, sameReq)
}

func sameEdit(d, e api.Edit) bool { return d.Kind == e.Kind && sameReq(d.Req, e.Req) }

// count returns the number that a token is.
func count(text string) int {
	n, err := strconv.Atoi(text)
	if err != nil {
		panic(err)
	}
	return n
}

// specOf returns the specification that tokens are. Braces and semicolons are never within what they separate.
func specOf(l []string) api.Spec {
	var s api.Spec
	first := slices.Index(l, "part")
	if first < 0 {
		first = len(l)
	}
	for _, x := range ended(l[:first], ";") {
		u := api.Signal{Input: x[0] == "input", Name: x[1], Size: 2}
		if len(x) == 4 {
			u.Size = count(x[3])
		}
		s.Signals = append(s.Signals, u)
	}
	for _, x := range ended(l[first:], "}") {
		for _, y := range ended(x[3:], ";") {
			s.Reqs = append(s.Reqs, reqOf(x[1], y))
		}
	}
	return s
}

// ended returns the parts of a list, each of which ends before a token.
func ended(l []string, token string) [][]string {
	parts := split(l, token)
	return parts[:len(parts)-1]
}

func reqOf(part string, l []string) api.Req {
	kinds := map[string]int{"assume": api.Assume, "guarantee": api.Guarantee}
	return api.Req{Part: part, Name: l[1], Kind: kinds[l[0]], Formula: formulaOf(l[3:])}
}

// editOf returns the edit that tokens are.
func editOf(l []string) api.Edit {
	switch l[0] {
	case "drop":
		return api.Edit{Kind: api.EditDrop, Req: api.Req{Name: l[1]}}
	case "add":
		return api.Edit{Kind: api.EditAdd, Req: reqOf(l[1], l[2:])}
	}
	return api.Edit{Kind: api.EditReplace, Req: reqOf(l[1], l[2:])}
}

// formulaOf returns the formula that tokens are, by the operator outside parentheses that binds least.
func formulaOf(l []string) api.Formula {
	if x := split(l, "->"); len(x) > 1 {
		return node(api.OpImp, formulaOf(x[0]), formulaOf(l[len(x[0])+1:]))
	}
	for _, o := range []struct {
		separator string
		op        int
	}{{"|", api.OpOr}, {"&", api.OpAnd}} {
		if x := split(l, o.separator); len(x) > 1 {
			f := node(o.op)
			for _, term := range x {
				f.Args = append(f.Args, formulaOf(term))
			}
			return f
		}
	}
	if x := split(l, "U", "R", "S", "T"); len(x) > 1 {
		i := len(x[0])
		n, others := indexOf(l[i+1:])
		return between(l[i], n, formulaOf(x[0]), formulaOf(others))
	}
	return unaryOf(l)
}

// unaryOf returns the formula that tokens are of which none is an operator between formulas outside parentheses.
func unaryOf(l []string) api.Formula {
	switch l[0] {
	case "true":
		return node(api.OpTrue)
	case "false":
		return node(api.OpFalse)
	case "(":
		return formulaOf(l[1 : len(l)-1])
	case "!", "X", "Y", "Z", "O", "H", "F", "G":
		n, others := indexOf(l[1:])
		return before(l[0], n, unaryOf(others))
	}
	switch len(l) {
	case 1:
		return is(l[0], 1)
	case 3:
		f := is(l[0], count(l[2]))
		if l[1] == "!=" {
			return node(api.OpNot, f)
		}
		return f
	}
	panic(fmt.Sprint("no formula: ", l))
}

// split returns the parts of a list between those of some tokens that are outside parentheses.
func split(l []string, separators ...string) [][]string {
	parts := [][]string{nil}
	depth := 0
	for _, x := range l {
		switch {
		case depth == 0 && slices.Contains(separators, x):
			parts = append(parts, nil)
			continue
		case x == "(":
			depth++
		case x == ")":
			depth--
		}
		last := &parts[len(parts)-1]
		*last = append(*last, x)
	}
	return parts
}

// indexOf returns the index that a list begins with, -1 if there is none, and what follows.
func indexOf(l []string) (int, []string) {
	if l[0] != "[" {
		return -1, l
	}
	return count(l[1]), l[3:]
}

// before returns the formula with an operator before another one, and an index, or -1.
func before(text string, index int, f api.Formula) api.Formula {
	switch text {
	case "!":
		return node(api.OpNot, f)
	case "X":
		return node(api.OpNext, f)
	case "Y":
		return valued(api.OpYesterday, 0, f)
	case "Z":
		return valued(api.OpYesterday, 1, f)
	case "O":
		return node(api.OpOnce, f)
	case "H":
		return node(api.OpHistorically, f)
	}
	if index < 0 {
		return node(map[string]int{"F": api.OpFinally, "G": api.OpGlobally}[text], f)
	}
	return api.Formula{Op: map[string]int{"F": api.OpWithin, "G": api.OpDuring}[text], Bound: index, Args: []api.Formula{f}}
}

// between returns the formula with an operator between two other ones, and an index, or -1.
func between(text string, index int, f, g api.Formula) api.Formula {
	switch text {
	case "U":
		return node(api.OpUntil, f, g)
	case "R":
		return node(api.OpRelease, f, g)
	case "S":
		return valued(api.OpSince, max(index, 0), f, g)
	}
	if index < 0 {
		index = 1
	}
	return valued(api.OpTrigger, index, f, g)
}

func node(op int, args ...api.Formula) api.Formula { return api.Formula{Op: op, Args: args} }

func valued(op, val int, args ...api.Formula) api.Formula {
	return api.Formula{Op: op, Val: val, Args: args}
}

func is(name string, val int) api.Formula { return api.Formula{Op: api.OpIs, Name: name, Val: val} }
