package parser_test

import (
	"fmt"
	"math/rand"
	"slices"
	"strings"
	"testing"

	"foresight/api"
	"foresight/lexer"
	"foresight/parser"
)

// Words that are no names: key words, operators, names of the wrong form or length, numbers and symbols.
var (
	operators = []string{"X", "Y", "Z", "O", "H", "F", "G", "U", "R", "S", "T"}
	misnamed  = []string{"A", "Fa", "B1", "abcdefghijklm", "a23456789_123", "abcdefghijklmnopqrst"}
	symbols   = []string{"->", "!=", "(", ")", "{", "}", "[", "]", ",", ";", ":", "=", "!", "&", "|"}
	numbers   = []string{"0", "1", "2", "3", "9", "10", "1000", "9999"}
)

// names are names, also the longest ones and those that begin like key words.
var names = []string{"a", "b", "c", "p", "g", "u", "x", "a_1", "z9", "a__", "inputs", "in", "partx", "trues", "owed", "abcdefghijkl", "a23456789_12"}

// nameless returns the words that cannot stand for a NAME.
func nameless() []string { return slices.Concat(keyWords, operators, misnamed, numbers, symbols) }

// derive appends words of the grammar that a symbol can stand for to l. After some choices it goes to an end.
func derive(r *rand.Rand, l []string, symbol string, choices *int) []string {
	alternatives := grammar[symbol]
	switch {
	case symbol == "NAME":
		return append(l, names[r.Intn(len(names))])
	case symbol == "NUMBER":
		return append(l, numbers[r.Intn(len(numbers))])
	case alternatives == nil:
		return append(l, symbol)
	}
	i := 0
	if *choices > 0 {
		i = r.Intn(len(alternatives))
	}
	*choices--
	for _, s := range alternatives[i] {
		l = derive(r, l, s, choices)
	}
	return l
}

// text returns words that are apart, with gaps between them.
func text(r *rand.Rand, words []string) string {
	var b strings.Builder
	for i, w := range words {
		if i > 0 && !apart(words[i-1], w) || r.Intn(3) == 0 {
			b.WriteString(gap(r))
		}
		b.WriteString(w)
	}
	if r.Intn(3) == 0 {
		b.WriteString(gap(r))
	}
	if r.Intn(10) == 0 {
		b.WriteString("% the end")
	}
	return b.String()
}

// apart reports whether two words are tokens also if nothing is between them.
func apart(v, w string) bool {
	l, e, _ := lexer.Lex(v + w)
	return e == api.OK && len(l) == 2 && l[0].Text == v
}

// gap returns any gaps, which have ended before what follows them.
func gap(r *rand.Rand) string {
	l := []string{" ", "\t", "\n", "\r", "%\n", "% a; - #\n"}
	text := l[r.Intn(len(l))]
	for range r.Intn(3) {
		text += l[r.Intn(len(l))]
	}
	return text
}

// right returns texts of a symbol. They are always the same.
func right(symbol string, n int) []string {
	r := rand.New(rand.NewSource(5))
	var l []string
	for range n {
		choices := r.Intn(60)
		if t := text(r, derive(r, nil, symbol, &choices)); len(t) <= api.MaxSource {
			l = append(l, t)
		}
	}
	return l
}

// changed returns texts of a symbol with some words left out, added, exchanged or behind the end. They are always the same.
func changed(symbol string, n int) []string {
	r := rand.New(rand.NewSource(6))
	all := slices.Concat(nameless(), names, numbers)
	var l []string
	for range n {
		choices := r.Intn(40)
		words := derive(r, nil, symbol, &choices)
		for range 1 + r.Intn(2) {
			i, w := r.Intn(len(words)+1), all[r.Intn(len(all))]
			switch r.Intn(4) {
			case 0:
				words = slices.Insert(words, i, w)
			case 1:
				words = words[:i]
			case 2:
				words = slices.Delete(words, min(i, max(0, len(words)-1)), min(i+1, len(words)))
			case 3:
				words = slices.Replace(words, i, min(i+1, len(words)), w)
			}
		}
		if t := text(r, words); len(t) <= api.MaxSource {
			l = append(l, t)
		}
	}
	return l
}

// all returns right and changed texts of all symbols.
func all(n int) []string {
	var l []string
	for _, s := range []string{"<spec>", "<formula>", "<edit>"} {
		l = append(append(l, right(s, n)...), changed(s, n)...)
	}
	return l
}

// checkAll compares what a text is parsed to, by all functions, with the definition.
func checkAll(t *testing.T, text string) {
	t.Helper()
	specs.check(t, text)
	formulas.check(t, text)
	edits.check(t, text)
}

// P5.1: the chapter's examples.
func TestExamples(t *testing.T) {
	a, b, c, d := is("a", 1), is("b", 1), is("c", 1), is("d", 1)
	formulas.found(t, "G (r -> F[3] g)", node(api.OpGlobally, node(api.OpImp, is("r", 1), api.Formula{Op: api.OpWithin, Bound: 3, Args: []api.Formula{is("g", 1)}})))
	formulas.found(t, "a & b & (c & d)", node(api.OpAnd, a, b, node(api.OpAnd, c, d)))
	formulas.found(t, "!a U b R c=2", node(api.OpUntil, node(api.OpNot, a), node(api.OpRelease, b, is("c", 2))))
	formulas.found(t, "a S[1] Y b", valued(api.OpSince, 1, a, valued(api.OpYesterday, 0, b)))
	specs.found(t, "input r; output m: 3; part p { guarantee g: G m != 2; }", api.Spec{
		Signals: []api.Signal{{Name: "r", Input: true, Size: 2}, {Name: "m", Size: 3}},
		Reqs:    []api.Req{{Part: "p", Name: "g", Kind: api.Guarantee, Formula: node(api.OpGlobally, node(api.OpNot, is("m", 2)))}},
	})
	formulas.refused(t, "a &", api.ErrEnd, 3)
	formulas.refused(t, "a b", api.ErrSyntax, 2)
	specs.refused(t, "input X;", api.ErrSyntax, 6)
}

// P5.1: a text without tokens is a specification, and neither a formula nor an edit.
func TestEmpty(t *testing.T) {
	for _, text := range []string{"", " ", "\n", "%", "% a", " % a\n\t"} {
		specs.found(t, text, api.Spec{})
		formulas.refused(t, text, api.ErrEnd, len(text))
		edits.refused(t, text, api.ErrEnd, len(text))
	}
}

// P5.1: signals with and without a number; whether sizes and names are right is not asked for.
func TestSignals(t *testing.T) {
	specs.found(t, "input r;", api.Spec{Signals: []api.Signal{{Name: "r", Input: true, Size: 2}}})
	specs.found(t, "output r;", api.Spec{Signals: []api.Signal{{Name: "r", Size: 2}}})
	for _, n := range numbers {
		specs.found(t, "output a;input r:"+n+";", api.Spec{Signals: []api.Signal{{Name: "a", Size: 2}, {Name: "r", Input: true, Size: count(n)}}})
		specs.found(t, "output r : "+n+" ; input r;", api.Spec{Signals: []api.Signal{{Name: "r", Size: count(n)}, {Name: "r", Input: true, Size: 2}}})
	}
	specs.refused(t, "input r", api.ErrEnd, 7)
	specs.refused(t, "input", api.ErrEnd, 5)
	specs.refused(t, "input r:", api.ErrEnd, 8)
	specs.refused(t, "input r: 2 ", api.ErrEnd, 11)
	specs.refused(t, "input r:;", api.ErrSyntax, 8)
	specs.refused(t, "input r: r;", api.ErrSyntax, 9)
	specs.refused(t, "input r: 2 2;", api.ErrSyntax, 11)
	specs.refused(t, "input r 2;", api.ErrSyntax, 8)
	specs.refused(t, "input r, s;", api.ErrSyntax, 7)
	specs.refused(t, "input r s;", api.ErrSyntax, 8)
	specs.refused(t, "input;", api.ErrSyntax, 5)
	specs.refused(t, "input r;;", api.ErrSyntax, 8)
	specs.refused(t, "input r; r;", api.ErrSyntax, 9)
	specs.refused(t, "r;", api.ErrSyntax, 0)
}

// P5.1: parts, also without requirements, which leave nothing; no signals stand behind a part.
func TestParts(t *testing.T) {
	q := func(part, name string, kind int) api.Req {
		return api.Req{Part: part, Name: name, Kind: kind, Formula: is("x", 1)}
	}
	found := func(text string, reqs ...api.Req) {
		t.Helper()
		specs.found(t, text, api.Spec{Reqs: reqs})
		specs.found(t, "input r; "+text, api.Spec{Signals: []api.Signal{{Name: "r", Input: true, Size: 2}}, Reqs: reqs})
	}
	found("part p {}")
	found("part p {} part p { } part q {}")
	found("part p { assume a: x; }", q("p", "a", api.Assume))
	found("part p { guarantee a: x; }", q("p", "a", api.Guarantee))
	found("part p { guarantee a: x; assume a: x; } part n {} part q { guarantee p: x; } part p { guarantee a: x; }",
		q("p", "a", api.Guarantee), q("p", "a", api.Assume), q("q", "p", api.Guarantee), q("p", "a", api.Guarantee))
	for text, at := range map[string]int{
		"part p {} input r;": 10, "part p {} output r;": 10, "input r; part p {} input r;": 19, "part p { assume a: x; } output r: 3;": 24,
		"part p {};": 9, "part p {}}": 9, "part p {} p": 10, "part p {} assume a: x;": 10, "part {}": 5, "part p }": 7, "part p ;": 7, "part p q {}": 7, "part p: {}": 6,
		"part p { input r; }": 9, "part p { x; }": 9, "part p { ; }": 9, "part p { part q {} }": 9, "part p { drop a; }": 9, "part p { assume a: x }": 21,
		"part p { assume a: x, }": 20, "part p { assume: x; }": 15, "part p { assume a x; }": 18, "part p { assume a: ; }": 19, "part p { assume a:: x; }": 18, "part p { assume a: x;; }": 21,
		"part p { assume a b: x; }": 18, "part p { assume guarantee a: x; }": 16, "part p { guarantee a: x = ; }": 26, "part p { guarantee a: (x; }": 24, "{}": 0, "part p (x)": 7,
	} {
		specs.refused(t, text, api.ErrSyntax, at)
	}
	whole := "part p { assume a : x ; }"
	for _, n := range []int{4, 5, 6, 7, 8, 9, 15, 16, 17, 18, 19, 20, 21, 22, 23, 24} {
		specs.refused(t, whole[:n], api.ErrEnd, n)
	}
}

// P5.1: edits; the requirement of a dropped one has only a name.
func TestEdits(t *testing.T) {
	for word, kind := range map[string]int{"add": api.EditAdd, "replace": api.EditReplace} {
		edits.found(t, word+" p guarantee g: r -> X g", api.Edit{Kind: kind, Req: api.Req{Part: "p", Name: "g", Kind: api.Guarantee, Formula: node(api.OpImp, is("r", 1), node(api.OpNext, is("g", 1)))}})
		edits.found(t, word+" g assume g: true", api.Edit{Kind: kind, Req: api.Req{Part: "g", Name: "g", Kind: api.Assume, Formula: node(api.OpTrue)}})
		n := len(word)
		for text, at := range map[string]int{" assume g: r": 1, " p g: r": 3, " p q assume g: r": 3, " p assume : r": 10, " p assume g r": 12, " p assume g:;": 12, " p assume g: r;": 14, " p assume g: r drop g": 15, " p drop g": 3, " p { assume g: r; }": 3} {
			edits.refused(t, word+text, api.ErrSyntax, n+at)
		}
		for _, text := range []string{"", " p", " p assume", " p guarantee g", " p assume g:", " p assume g: r &", " p assume g: (r "} {
			edits.refused(t, word+text, api.ErrEnd, n+len(text))
		}
	}
	edits.found(t, "drop g", api.Edit{Kind: api.EditDrop, Req: api.Req{Name: "g"}})
	edits.refused(t, "drop", api.ErrEnd, 4)
	edits.refused(t, "drop % g", api.ErrEnd, 8)
	for text, at := range map[string]int{"drop g h": 7, "drop g;": 6, "drop drop": 5, "drop p guarantee g: r": 7, "drop guarantee g": 5, "g": 0, "change g": 0, "assume g: r": 0, "p assume g: r": 0, "input r;": 0, "Add p assume g: r": 0} {
		edits.refused(t, text, api.ErrSyntax, at)
	}
}

// P5.1: only names stand for a NAME, wherever one does.
func TestNames(t *testing.T) {
	places := []struct {
		before, after string
		check         func(t *testing.T, text string)
	}{
		{"input ", ";", specs.check}, {"output ", ":3;", specs.check}, {"part ", "{}", specs.check}, {"part p {assume ", ": x;}", specs.check}, {"part p {guarantee a: ", " = 2;}", specs.check},
		{"add ", " assume a: x", edits.check}, {"replace p guarantee ", ": x", edits.check}, {"replace p guarantee a: ", "", edits.check}, {"drop ", "", edits.check},
		{"", "", formulas.check}, {"a & ", "", formulas.check}, {"! ", " != 0", formulas.check}, {"(", ")", formulas.check},
	}
	for _, p := range places {
		for _, w := range slices.Concat(names, nameless()) {
			p.check(t, p.before+w+p.after)
			p.check(t, p.before+w)
			p.check(t, p.before+w+" "+w+p.after)
		}
	}
	for _, w := range names {
		formulas.found(t, w, is(w, 1))
		edits.found(t, "drop "+w, api.Edit{Kind: api.EditDrop, Req: api.Req{Name: w}})
		specs.found(t, "input "+w+";", api.Spec{Signals: []api.Signal{{Name: w, Input: true, Size: 2}}})
	}
	for _, w := range nameless() {
		edits.refused(t, "drop "+w, api.ErrSyntax, 5)
		specs.refused(t, "input "+w+";", api.ErrSyntax, 6)
		specs.refused(t, "part "+w+" {}", api.ErrSyntax, 5)
	}
}

// P5.1: signals' values, with a NUMBER and with other tokens.
func TestValues(t *testing.T) {
	for _, n := range numbers {
		for _, w := range names {
			formulas.found(t, w+"="+n, is(w, count(n)))
			formulas.found(t, w+" != "+n, node(api.OpNot, is(w, count(n))))
			formulas.found(t, "!"+w+" = "+n, node(api.OpNot, is(w, count(n))))
			formulas.found(t, "!"+w+" != "+n, node(api.OpNot, node(api.OpNot, is(w, count(n)))))
		}
		formulas.refused(t, n, api.ErrSyntax, 0)
		formulas.refused(t, n+" = a", api.ErrSyntax, 0)
		formulas.refused(t, "a "+n, api.ErrSyntax, 2)
		formulas.refused(t, "true = "+n, api.ErrSyntax, 5)
		formulas.refused(t, "false != "+n, api.ErrSyntax, 6)
		formulas.refused(t, "(a) = "+n, api.ErrSyntax, 4)
		formulas.refused(t, "a = 1 = "+n, api.ErrSyntax, 6)
		formulas.refused(t, "a = 1 != "+n, api.ErrSyntax, 6)
		formulas.refused(t, "a = ! "+n, api.ErrSyntax, 4)
	}
	for _, w := range slices.Concat(names, keyWords, operators, misnamed, symbols) {
		formulas.refused(t, "a = "+w, api.ErrSyntax, 4)
		formulas.refused(t, "a != "+w+" 1", api.ErrSyntax, 5)
	}
	formulas.refused(t, "a =", api.ErrEnd, 3)
	formulas.refused(t, "a != ", api.ErrEnd, 5)
	formulas.refused(t, "a ! = 1", api.ErrSyntax, 2)
	formulas.found(t, "true", node(api.OpTrue))
	formulas.found(t, "false", node(api.OpFalse))
}

// P5.1: every operator before a formula, with and without an index; operators before an operator.
func TestOperatorsBefore(t *testing.T) {
	all := []string{"!", "X", "Y", "Z", "O", "H", "F", "G"}
	a := is("a", 1)
	for i, o := range all {
		formulas.found(t, o+" a", before(o, -1, a))
		formulas.found(t, o+"(a)", before(o, -1, a))
		formulas.refused(t, o, api.ErrEnd, 1)
		formulas.refused(t, "a "+o+" a", api.ErrSyntax, 2)
		for _, w := range slices.Concat([]string{")", "]", "&", "|", "->", "=", "!=", ";"}, numbers, operators[7:]) {
			formulas.refused(t, o+" "+w+" a", api.ErrSyntax, 2)
		}
		for _, p := range all {
			formulas.found(t, o+p+" a", before(o, -1, before(p, -1, a)))
			formulas.found(t, o+" "+p+" a U a", between("U", -1, before(o, -1, before(p, -1, a)), a))
			formulas.found(t, "a R "+o+p+" a", between("R", -1, a, before(o, -1, before(p, -1, a))))
		}
		for _, n := range numbers {
			if indexed := i >= 6; indexed {
				formulas.found(t, o+"["+n+"]a", before(o, count(n), a))
				formulas.found(t, "! "+o+" [ "+n+" ] "+o+" X a", node(api.OpNot, before(o, count(n), before(o, -1, node(api.OpNext, a)))))
			} else {
				formulas.refused(t, o+"["+n+"] a", api.ErrSyntax, 1)
			}
		}
		for _, b := range []string{"&", "|", "->", "U", "R", "S", "T"} {
			formulas.found(t, o+" a "+b+" "+o+" a", formulaOf([]string{"(", o, "a", ")", b, "(", o, "a", ")"}))
		}
	}
	for _, o := range []string{"F", "G"} {
		for text, at := range map[string]int{"[] a": 2, "[a] a": 2, "[ 1 a": 5, "[1 2] a": 4, "[1][2] a": 4, "[!1] a": 2, "[(1)] a": 2, "(1) a": 2, "] a": 1} {
			formulas.refused(t, o+text, api.ErrSyntax, at)
		}
		formulas.refused(t, o+"1 a", api.ErrSyntax, 0) // one token, which is no name
		for _, text := range []string{"[", "[1", "[1]", "[1] ", "[1] !"} {
			formulas.refused(t, o+text, api.ErrEnd, 1+len(text))
		}
	}
}

// P5.1: every operator between formulas, with and without an index.
func TestOperatorsBetween(t *testing.T) {
	a, b := is("a", 1), is("b", 1)
	for i, o := range []string{"U", "R", "S", "T"} {
		formulas.found(t, "a "+o+" b", between(o, -1, a, b))
		formulas.refused(t, o+" b", api.ErrSyntax, 0)
		formulas.refused(t, "a "+o, api.ErrEnd, 3)
		for _, w := range slices.Concat([]string{")", "]", "&", "|", "->", "=", "!=", ";"}, numbers, operators[7:]) {
			formulas.refused(t, "a "+o+" "+w, api.ErrSyntax, 4)
		}
		for _, n := range numbers {
			if indexed := i >= 2; indexed {
				formulas.found(t, "a "+o+"["+n+"]b", between(o, count(n), a, b))
				formulas.found(t, "a "+o+" [ "+n+" ] b "+o+" a", between(o, count(n), a, between(o, -1, b, a)))
			} else {
				formulas.refused(t, "a "+o+"["+n+"] b", api.ErrSyntax, 3)
			}
		}
	}
	for _, o := range []string{"S", "T"} {
		for text, at := range map[string]int{"[] b": 4, "[b] b": 4, "[ 1 b": 7, "[1 2] b": 6, "[1][2] b": 6, "] b": 3, "(1) b": 4} {
			formulas.refused(t, "a "+o+text, api.ErrSyntax, at)
		}
		for _, text := range []string{"[", "[1", "[1]", "[1] ", "[1] !"} {
			formulas.refused(t, "a "+o+text, api.ErrEnd, 3+len(text))
		}
	}
	for _, o := range []string{"&", "|", "->"} {
		formulas.refused(t, "a "+o+"[1] b", api.ErrSyntax, 2+len(o))
		formulas.refused(t, o+" b", api.ErrSyntax, 0)
		formulas.refused(t, "a "+o+" ", api.ErrEnd, 3+len(o))
		formulas.refused(t, "a "+o+" & b", api.ErrSyntax, 3+len(o))
	}
	for text, at := range map[string]int{"a , b": 2, "a : b": 2, "a [1] b": 2, "a ; b": 2, "a Ub": 2, "a ! b": 2, "a { b": 2, "()": 1, ")": 0, "a)": 1, "(a)(b)": 3, "(a))": 3, "(a b)": 3} {
		formulas.refused(t, text, api.ErrSyntax, at)
	}
	formulas.refused(t, "(a", api.ErrEnd, 2)
	formulas.refused(t, "((a) ", api.ErrEnd, 5)
}

// P5.1: an error of the lexer comes before all others, also where it stands behind them.
func TestLexerErrors(t *testing.T) {
	wrong := []string{"-", "#", "\x80", "_", "00", "1a", "12345", strings.Repeat("a", 21)}
	for _, w := range wrong {
		for _, text := range []string{"", "a ", "a & ", "a b ", ") ", "input r ", "part p { ", "drop ", "drop a a ", "X X 1 ", "% a\n"} {
			for _, more := range []string{"", " a", " )", " #", " 00"} {
				specs.refused(t, text+w+more, api.ErrToken, len(text))
				formulas.refused(t, text+w+more, api.ErrToken, len(text))
				edits.refused(t, text+w+more, api.ErrToken, len(text))
			}
		}
	}
	for _, text := range []string{"", ")", "a", "#", "input", "drop a", "input r;"} {
		long := text + strings.Repeat(" ", api.MaxSource+1-len(text))
		specs.refused(t, long, api.ErrLimit, api.MaxSource)
		formulas.refused(t, long, api.ErrLimit, api.MaxSource)
		edits.refused(t, long, api.ErrLimit, api.MaxSource)
		checkAll(t, long[1:])
		checkAll(t, long[:api.MaxSource])
	}
	for _, two := range []string{"! !", "a a ", ") ) ", "a&"} {
		many := strings.Repeat(two, api.MaxTokens/2)
		formulas.refused(t, many+"a", api.ErrLimit, len(many))
		specs.refused(t, many+"a", api.ErrLimit, len(many))
		edits.refused(t, many+"a", api.ErrLimit, len(many))
		checkAll(t, many)
	}
}

// P5.1: texts with as many tokens as there can be.
func TestLongTexts(t *testing.T) {
	a := is("a", 1)
	deep, f := strings.Repeat("(", 999)+"a"+strings.Repeat(")", 999), a
	formulas.found(t, deep, a)
	formulas.found(t, "X"+deep, node(api.OpNext, a))
	formulas.refused(t, strings.Repeat("(", 2000), api.ErrEnd, 2000)
	formulas.refused(t, strings.Repeat("(", 1999)+")", api.ErrSyntax, 1999)
	for range 1999 {
		f = node(api.OpNot, f)
	}
	formulas.found(t, strings.Repeat("!", 1999)+"a", f)
	formulas.refused(t, strings.Repeat("!", 2000), api.ErrEnd, 2000)
	for _, o := range []string{"U", "R", "S", "T", "->", "&", "|"} {
		words := strings.Repeat("a "+o+" ", 999)
		formulas.check(t, words+"a")
		formulas.check(t, words)
		formulas.check(t, words+")")
	}
	formulas.found(t, strings.Repeat("a|", 999)+"a", node(api.OpOr, slices.Repeat([]api.Formula{a}, 1000)...))
	specs.found(t, strings.Repeat("input r;", 666), api.Spec{Signals: slices.Repeat([]api.Signal{{Name: "r", Input: true, Size: 2}}, 666)})
	specs.found(t, strings.Repeat("part p{}", 500), api.Spec{})
	specs.found(t, "part p{"+strings.Repeat("assume a:a;", 332)+"}", api.Spec{Reqs: slices.Repeat([]api.Req{{Part: "p", Name: "a", Kind: api.Assume, Formula: a}}, 332)})
}

// P5.1, P5.7: all functions are as defined, for all short texts of words that matter.
func TestShortTexts(t *testing.T) {
	words := []string{"a", "2", "true", "(", ")", "!", "=", "!=", "->", "&", "|", "U", "S", "X", "F", "[", "]", ";"}
	checkShort(t, words, 4, formulas.symbol, formulas.check)
	words = []string{"a", "2", "true", "input", "output", "part", "assume", "guarantee", ":", ";", "{", "}", "&"}
	checkShort(t, words, 7, specs.symbol, specs.check)
	words = []string{"a", "2", "false", "add", "drop", "replace", "assume", "guarantee", ":", ";", "&", "X"}
	checkShort(t, words, 7, edits.symbol, edits.check)
	words = []string{"a", "2", "true", "(", "!", "U", "input", "part", "assume", ":", ";", "{", "}", "add", "drop"}
	checkShort(t, words, 3, "", checkAll)
}

// checkShort checks all texts of up to n words and a further one, in which only the last two words can be wrong for a symbol, if there is one.
func checkShort(t *testing.T, words []string, n int, symbol string, check func(t *testing.T, text string)) {
	t.Helper()
	var grow func(text string, n int, l []*rest)
	grow = func(text string, n int, l []*rest) {
		check(t, text)
		if n == 0 {
			return
		}
		for _, w := range words {
			tokens, _, _ := lexer.Lex(w)
			behind := after(l, tokens[0])
			if symbol == "" || len(behind) > 0 {
				grow(text+" "+w, n-1, behind)
			} else {
				check(t, text+" "+w)
				check(t, text+" "+w+" "+words[len(text)%len(words)])
			}
		}
	}
	grow("", n, []*rest{{symbol: symbol}})
}

// P5.1: all functions are as defined, for texts that are right and for those with changes.
func TestDefinition(t *testing.T) {
	for _, text := range all(1500) {
		checkAll(t, text)
	}
}

// P5.2: other gaps between the tokens change nothing but the offsets of errors.
func TestOtherGaps(t *testing.T) {
	r := rand.New(rand.NewSource(7))
	for _, old := range all(500) {
		tokens, e, _ := lexer.Lex(old)
		if e != api.OK {
			continue
		}
		var words []string
		for _, x := range tokens {
			words = append(words, x.Text)
		}
		other := text(r, words)
		moved, e, _ := lexer.Lex(other)
		if e != api.OK {
			continue
		}
		offsets := map[int]int{-1: -1, len(old): len(other)}
		for i := range tokens {
			offsets[tokens[i].At] = moved[i].At
		}
		sameButOffset(t, specs, old, other, offsets)
		sameButOffset(t, formulas, old, other, offsets)
		sameButOffset(t, edits, old, other, offsets)
	}
	formulas.refused(t, " a\n% c\nb", api.ErrSyntax, 7)
	formulas.refused(t, " a \n&%c", api.ErrEnd, 7)
}

// sameButOffset checks that a text has the item of another one, or its error at the offset that has become of its offset.
func sameButOffset[T any](t *testing.T, k kind[T], old, other string, offsets map[int]int) {
	t.Helper()
	item, e, at := k.parse(old)
	k.expect(t, other, item, e, offsets[at])
}

// P5.3: the text up to the end of a wrong token has the same error, whatever follows; the text before it has none, or ErrEnd.
func TestFirstError(t *testing.T) {
	for _, text := range all(500) {
		checkFirst(t, specs, text)
		checkFirst(t, formulas, text)
		checkFirst(t, edits, text)
	}
}

func checkFirst[T any](t *testing.T, k kind[T], text string) {
	t.Helper()
	_, e, at := k.parse(text)
	switch e {
	case api.ErrSyntax:
		tokens, _, _ := lexer.Lex(text[at:])
		end := at + len(tokens[0].Text)
		for _, more := range []string{"", " ", " a", ")", " % a"} {
			k.refused(t, text[:end]+more, api.ErrSyntax, at)
		}
		beforeError(t, k, text[:at])
	case api.OK, api.ErrEnd:
		tokens, _, _ := lexer.Lex(text)
		for _, x := range tokens {
			beforeError(t, k, text[:x.At])
			beforeError(t, k, text[:x.At+len(x.Text)])
		}
	}
}

// beforeError checks that a text has no error, or ErrEnd at its end.
func beforeError[T any](t *testing.T, k kind[T], text string) {
	t.Helper()
	switch _, e, at := k.parse(text); {
	case e == api.OK && at == -1:
	case e == api.ErrEnd && at == len(text):
	default:
		t.Errorf("%s %.200q: %d %d", k.symbol, text, e, at)
	}
}

// P5.3: a wrong token first, in the middle, and behind a whole item.
func TestWrongTokens(t *testing.T) {
	formula, spec, edit := "G ( a = 1 -> F [ 3 ] b U c ) & d", "input r : 3 ; output m ; part p { assume g : r ; guarantee h : G m ; } part q { }", "add p guarantee g : r -> X g"
	for _, w := range []string{",", "}", "]", "->", "Q", "part", "7", "abcdefghijklm"} {
		for i := range 1 + len(strings.Fields(formula)) {
			formulas.check(t, inserted(formula, i, w))
		}
		for i := range 1 + len(strings.Fields(spec)) {
			specs.check(t, inserted(spec, i, w))
		}
		for i := range 1 + len(strings.Fields(edit)) {
			edits.check(t, inserted(edit, i, w))
		}
	}
	formulas.refused(t, ", "+formula, api.ErrSyntax, 0)
	formulas.refused(t, formula+" ,", api.ErrSyntax, len(formula)+1)
	specs.refused(t, spec+" ,", api.ErrSyntax, len(spec)+1)
	edits.refused(t, edit+",,", api.ErrSyntax, len(edit))
}

// inserted returns a text with a word before its word i.
func inserted(text string, i int, word string) string {
	return strings.Join(slices.Insert(strings.Fields(text), i, word), " ")
}

// some returns formulas, none of which has very many tokens, with the texts that have no comment at the end.
func some(t *testing.T) (texts []string, l []api.Formula) {
	t.Helper()
	for _, text := range right("<formula>", 300) {
		if len(text) < 400 {
			texts = append(texts, text+"\n")
			l = append(l, formulas.must(t, text))
		}
	}
	return texts, l
}

// P5.4: a formula in parentheses is the formula, and an operator makes one node of formulas in parentheses.
func TestParentheses(t *testing.T) {
	texts, l := some(t)
	for i, f := range l {
		in, j := "("+texts[i]+")", (i*7+1)%len(l)
		formulas.found(t, in, f)
		formulas.found(t, "( "+in+" )", f)
		both := func(o string) string { return in + o + "(" + texts[j] + ")" }
		for _, o := range []string{"!", "X", "Y", "Z", "O", "H", "F", "G"} {
			formulas.found(t, o+in, before(o, -1, f))
		}
		for _, o := range []string{"U", "R", "S", "T"} {
			formulas.found(t, both(o), between(o, -1, f, l[j]))
		}
		for o, op := range map[string]int{"&": api.OpAnd, "|": api.OpOr, "->": api.OpImp} {
			formulas.found(t, both(o), node(op, f, l[j]))
		}
		for _, n := range []int{0, 1, 7, 9999} {
			index := fmt.Sprintf("[%d]", n)
			formulas.found(t, "F"+index+in, before("F", n, f))
			formulas.found(t, "G"+index+in, before("G", n, f))
			formulas.found(t, both("S"+index), between("S", n, f, l[j]))
			formulas.found(t, both("T"+index), between("T", n, f, l[j]))
		}
	}
}

// P5.5: terms between & and | are the arguments of one node, in order; what stands in parentheses is one of them.
func TestChains(t *testing.T) {
	r := rand.New(rand.NewSource(8))
	texts, l := some(t)
	for _, n := range []int{2, 3, 4, 5, 17, 60} {
		for range 20 {
			var terms, ands []string
			var args, lists []api.Formula
			for range n {
				i, j := r.Intn(len(l)), r.Intn(len(l))
				terms, args = append(terms, "("+texts[i]+")"), append(args, l[i])
				ands, lists = append(ands, "("+texts[i]+") & ("+texts[j]+")"), append(lists, node(api.OpAnd, l[i], l[j]))
			}
			for o, op := range map[string]int{"&": api.OpAnd, "|": api.OpOr} {
				if chain := strings.Join(terms, o); len(chain) < 5000 {
					formulas.found(t, chain, node(op, args...))
					formulas.found(t, "("+chain+")"+o+terms[0], node(op, node(op, args...), args[0]))
					formulas.found(t, terms[0]+o+"("+chain+")", node(op, args[0], node(op, args...)))
				}
			}
			if chain := strings.Join(ands, "|"); len(chain) < 5000 {
				formulas.found(t, chain, node(api.OpOr, lists...))
			}
		}
	}
	a, b, c := is("a", 1), is("b", 1), is("c", 1)
	formulas.found(t, "a & b | c & a | b", node(api.OpOr, node(api.OpAnd, a, b), node(api.OpAnd, c, a), b))
	formulas.found(t, "a & (b | c) & a", node(api.OpAnd, a, node(api.OpOr, b, c), a))
	formulas.found(t, "a & b U c & a", node(api.OpAnd, a, node(api.OpUntil, b, c), a))
	formulas.found(t, "a | b -> c & a", node(api.OpImp, node(api.OpOr, a, b), node(api.OpAnd, c, a)))
	formulas.found(t, "(a & b) & c", node(api.OpAnd, node(api.OpAnd, a, b), c))
	formulas.found(t, "(a | b) | (c)", node(api.OpOr, node(api.OpOr, a, b), c))
}

// P5.5: ->, and U, R, S and T, are grouped from the right.
func TestGroups(t *testing.T) {
	texts, l := some(t)
	ways := []string{"U", "R", "S", "T", "S[3]", "T[0]"}
	indices := []int{-1, -1, -1, -1, 3, 0}
	for i := range l {
		j, k := (i*3+1)%len(l), (i*5+2)%len(l)
		x, y, z := "("+texts[i]+")", "("+texts[j]+")", "("+texts[k]+")"
		formulas.found(t, x+"->"+y+"->"+z, node(api.OpImp, l[i], node(api.OpImp, l[j], l[k])))
		formulas.found(t, "("+x+"->"+y+")->"+z, node(api.OpImp, node(api.OpImp, l[i], l[j]), l[k]))
		for m, o := range ways {
			for n, p := range ways {
				formulas.found(t, x+o+y+p+z, between(o[:1], indices[m], l[i], between(p[:1], indices[n], l[j], l[k])))
				formulas.found(t, "("+x+o+y+")"+p+z, between(p[:1], indices[n], between(o[:1], indices[m], l[i], l[j]), l[k]))
			}
		}
	}
	a, b, c, d := is("a", 1), is("b", 1), is("c", 1), is("d", 1)
	formulas.found(t, "a -> b -> c -> d", node(api.OpImp, a, node(api.OpImp, b, node(api.OpImp, c, d))))
	formulas.found(t, "a U b U c U d", node(api.OpUntil, a, node(api.OpUntil, b, node(api.OpUntil, c, d))))
}

// P5.6: the requirement of a text has the formula that its text has.
func TestRequirements(t *testing.T) {
	texts, l := some(t)
	for i, f := range l {
		q := api.Req{Part: "p", Name: "g", Kind: api.Guarantee, Formula: f}
		specs.found(t, "part p { guarantee g: "+texts[i]+"; }", api.Spec{Reqs: []api.Req{q}})
		edits.found(t, "add p guarantee g: "+texts[i], api.Edit{Kind: api.EditAdd, Req: q})
		q.Kind = api.Assume
		edits.found(t, "replace p assume g: "+texts[i], api.Edit{Kind: api.EditReplace, Req: q})
		specs.found(t, "input r; part n {} part p { assume g: "+texts[i]+"; assume h: true; }", api.Spec{
			Signals: []api.Signal{{Name: "r", Input: true, Size: 2}},
			Reqs:    []api.Req{q, {Part: "p", Name: "h", Kind: api.Assume, Formula: node(api.OpTrue)}},
		})
	}
}

// P5.6: further parts append their requirements; the signals are those of the beginning.
func TestFurtherParts(t *testing.T) {
	beginnings, parts, signals := right("<spec>", 300), right("<parts>", 300), right("<signals>", 300)
	for i, text := range beginnings {
		j := (i*7 + 1) % len(parts)
		first, more := specs.must(t, text), specs.must(t, parts[j])
		if whole := text + "\n" + parts[j]; len(whole) <= api.MaxSource {
			specs.found(t, whole, api.Spec{Signals: first.Signals, Reqs: slices.Concat(first.Reqs, more.Reqs)})
		}
		begun := specs.must(t, signals[j])
		if len(begun.Reqs) > 0 || len(more.Signals) > 0 {
			t.Errorf("%q: %v, %q: %v", signals[j], begun, parts[j], more)
		}
		if whole := signals[j] + "\n" + parts[j]; len(whole) <= api.MaxSource {
			specs.found(t, whole, api.Spec{Signals: begun.Signals, Reqs: more.Reqs})
		}
		if whole := signals[j] + "\n" + text; len(whole) <= api.MaxSource {
			specs.found(t, whole, api.Spec{Signals: slices.Concat(begun.Signals, first.Signals), Reqs: first.Reqs})
		}
	}
}

// P5.7: no text is two of a formula, an edit, and a specification with a token.
func TestKinds(t *testing.T) {
	l := all(500)
	for _, w := range slices.Concat(names, nameless()) {
		l = append(l, w, w+" a", w+";", w+" a;")
	}
	for _, text := range l {
		kinds := 0
		if _, e, _ := parser.Formula(text); e == api.OK {
			kinds++
		}
		if _, e, _ := parser.Edit(text); e == api.OK {
			kinds++
		}
		tokens, _, _ := lexer.Lex(text)
		if _, e, _ := parser.Spec(text); e == api.OK && len(tokens) > 0 {
			kinds++
		}
		if kinds > 1 {
			t.Errorf("%q has %d kinds", text, kinds)
		}
	}
}

// P3: equal texts yield equal results, which share no memory, neither with each other nor within one of them.
func TestIndependence(t *testing.T) {
	for _, text := range all(200) {
		s, _, _ := parser.Spec(text)
		f, _, _ := parser.Formula(text)
		d, _, _ := parser.Edit(text)
		seen := map[*api.Formula]bool{}
		clear(s.Signals[:cap(s.Signals)])
		for i := range s.Reqs {
			overwrite(t, &s.Reqs[i].Formula, seen)
		}
		clear(s.Reqs[:cap(s.Reqs)])
		overwrite(t, &f, seen)
		overwrite(t, &d.Req.Formula, seen)
		checkAll(t, strings.Clone(text))
	}
}

// overwrite changes all nodes of a formula, and reports those that stand at more than one place.
func overwrite(t *testing.T, f *api.Formula, seen map[*api.Formula]bool) {
	t.Helper()
	if seen[f] {
		t.Errorf("shared: %v", f)
		return
	}
	seen[f] = true
	args := f.Args[:cap(f.Args)]
	for i := range args {
		overwrite(t, &args[i], seen)
	}
	f.Op, f.Name, f.Val, f.Bound = -1, "?", -1, -1
}
