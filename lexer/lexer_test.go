package lexer_test

import (
	"fmt"
	"math/rand"
	"regexp"
	"slices"
	"strings"
	"testing"

	"foresight/api"
	"foresight/lexer"
)

// result is what Lex returns.
type result struct {
	tokens []api.Token
	e      api.Errno
	at     int
}

func lex(text string) result {
	l, e, at := lexer.Lex(text)
	return result{l, e, at}
}

func failed(e api.Errno, at int) result { return result{nil, e, at} }

func (r result) equal(s result) bool {
	return slices.Equal(r.tokens, s.tokens) && r.e == s.e && r.at == s.at
}

// name, number and symbol return tokens of these kinds.
func name(text string, at int) api.Token {
	return api.Token{Kind: api.TokenName, Text: text, At: at}
}

func number(text string, at int) api.Token {
	return api.Token{Kind: api.TokenNumber, Text: text, At: at}
}

func symbol(text string, at int) api.Token {
	return api.Token{Kind: api.TokenSymbol, Text: text, At: at}
}

// symbols are all symbols, and blanks all blanks.
var (
	symbols = []string{"->", "!=", "(", ")", "{", "}", "[", "]", ",", ";", ":", "=", "!", "&", "|"}
	blanks  = []string{" ", "\t", "\n", "\r"}
)

// piece matches what may stand at a place of a text: a blank, a comment, a name, a number or a symbol; or what begins like one and is none.
var piece = regexp.MustCompile(`^(?:([ \t\n\r]|%[^\n]*)|([A-Za-z][a-z0-9_]*)|([0-9]+(?:[A-Za-z_])?)|(->|!=|[(){}\[\],;:=!&|]))`)

var (
	rightName   = regexp.MustCompile(`^.{1,20}$`)
	rightNumber = regexp.MustCompile(`^(?:0|[1-9][0-9]{0,3})$`)
)

// defined is the definition of the tokens of a text.
func defined(text string) result {
	if len(text) > 6000 {
		return failed(api.ErrLimit, 6000)
	}
	var l []api.Token
	for at := 0; at < len(text); {
		m := piece.FindStringSubmatch(text[at:])
		if m == nil || m[2] != "" && !rightName.MatchString(m[2]) || m[3] != "" && !rightNumber.MatchString(m[3]) {
			return failed(api.ErrToken, at)
		}
		if m[1] == "" && len(l) == 2000 {
			return failed(api.ErrLimit, at)
		}
		switch {
		case m[2] != "":
			l = append(l, name(m[2], at))
		case m[3] != "":
			l = append(l, number(m[3], at))
		case m[4] != "":
			l = append(l, symbol(m[4], at))
		}
		at += len(m[0])
	}
	return result{l, api.OK, -1}
}

// between matches what may stand between tokens, and behind what may stand behind the last one.
var (
	between = regexp.MustCompile(`^(?:[ \t\n\r]|%[^\n]*\n)*$`)
	behind  = regexp.MustCompile(`^(?:[ \t\n\r]|%[^\n]*\n)*(?:%[^\n]*)?$`)
)

// token returns any token, written, with its kind.
func token(r *rand.Rand) (string, int) {
	const letters, more = "abczABCZ", "abz019_"
	switch r.Intn(3) {
	case 0:
		text := letters[r.Intn(len(letters)):][:1]
		for range r.Intn(2) * r.Intn(20) {
			text += more[r.Intn(len(more)):][:1]
		}
		return text, api.TokenName
	case 1:
		return fmt.Sprint([]int{0, 1, 9, 10, 99, 100, 999, 1000, 9999, r.Intn(10000)}[r.Intn(10)]), api.TokenNumber
	}
	return symbols[r.Intn(len(symbols))], api.TokenSymbol
}

// space returns any gaps with at least one blank, which have ended before what follows them.
func space(r *rand.Rand) string {
	text := blanks[r.Intn(len(blanks))]
	for range r.Intn(3) {
		text += []string{" ", "\t", "\n", "\r", "%\n", "% a - #\n", "%%\r x\n", "%\x00\xff\n"}[r.Intn(8)]
	}
	return text
}

// short yields all texts of up to n of some bytes.
func short(bytes string, n int) func(func(string) bool) {
	return func(yield func(string) bool) {
		var grow func(text string) bool
		grow = func(text string) bool {
			if !yield(text) {
				return false
			}
			for i := range len(bytes) {
				if len(text) < n && !grow(text+bytes[i:i+1]) {
					return false
				}
			}
			return true
		}
		grow("")
	}
}

// texts returns texts of tokens, gaps and wrong bytes, with little or nothing between them, and some that are near to the limits. They are always the same.
func texts() []string {
	r := rand.New(rand.NewSource(4))
	wrong := []string{"-", ">", "_", "#", "\x00", "\x80", "\xff", "é", "007", "1a", "12345", strings.Repeat("a", 21)}
	var l []string
	for i := range 2000 {
		var b strings.Builder
		for range r.Intn(30) {
			t, _ := token(r)
			b.WriteString(t)
			if r.Intn(3) > 0 {
				b.WriteString(space(r))
			}
			if i%4 == 0 && r.Intn(20) == 0 {
				b.WriteString(wrong[r.Intn(len(wrong))])
			}
		}
		if i%8 == 1 {
			b.WriteString("% the end")
		}
		l = append(l, b.String())
	}
	for range 500 {
		b := make([]byte, r.Intn(12))
		r.Read(b)
		l = append(l, string(b))
	}
	for n := 1995; n <= 2005; n++ {
		l = append(l, strings.Repeat(";", n), strings.Repeat("a2 ", n-1)+"-", strings.Repeat("A", n)+"%")
	}
	for n := 5995; n <= 6005; n++ {
		l = append(l, strings.Repeat("ab % 1\n", 1000)[:n], strings.Repeat("-> % a\n", 1000)[:n])
	}
	return l
}

// right returns those of the texts that have no error, and wrong the others.
func right() []string {
	return slices.DeleteFunc(texts(), func(text string) bool { return lex(text).e != api.OK })
}

func wrong() []string {
	return slices.DeleteFunc(texts(), func(text string) bool { return lex(text).e == api.OK })
}

func check(t *testing.T, text string, want result) {
	t.Helper()
	if got := lex(text); !got.equal(want) {
		t.Errorf("%.60q (%d bytes): got %.300s, want %.300s", text, len(text), fmt.Sprint(got), fmt.Sprint(want))
	}
}

func found(t *testing.T, text string, tokens ...api.Token) {
	t.Helper()
	check(t, text, result{tokens, api.OK, -1})
}

func refused(t *testing.T, text string, e api.Errno, at int) {
	t.Helper()
	check(t, text, failed(e, at))
}

// P4.1: the chapter's examples, in its tables and in its text.
func TestExamples(t *testing.T) {
	found(t, "G(r->F[3]g)", name("G", 0), symbol("(", 1), name("r", 2), symbol("->", 3), name("F", 5),
		symbol("[", 6), number("3", 7), symbol("]", 8), name("g", 9), symbol(")", 10))
	found(t, "a!=1 % end", name("a", 0), symbol("!=", 1), number("1", 3))
	found(t, "!a=b", symbol("!", 0), name("a", 1), symbol("=", 2), name("b", 3))
	refused(t, "x - y", api.ErrToken, 2)
	refused(t, "12a", api.ErrToken, 0)
	refused(t, "007", api.ErrToken, 0)
	found(t, "Fa", name("Fa", 0))
	found(t, "F1", name("F1", 0))
	found(t, "FG", name("F", 0), name("G", 1))
	refused(t, "1a", api.ErrToken, 0)
}

// P4.1: a text may have no tokens; there are four blanks, and comments end before a line feed or at the end.
func TestGaps(t *testing.T) {
	for _, text := range []string{"", " ", "\t", "\n", "\r", " \t\r\n\n ", "%", "%%", "% a", "% a\n", "%\n%\n", " % 1a - \x00\xff#\r007\n\t%", "%\n\n %\r\n"} {
		found(t, text)
	}
	for _, b := range blanks {
		found(t, "a"+b+"b", name("a", 0), name("b", 2))
		found(t, b+"1"+b+b+"2"+b, number("1", 1), number("2", 4))
		found(t, "!"+b+"=", symbol("!", 0), symbol("=", 2))
		refused(t, "-"+b+">", api.ErrToken, 0)
	}
	for _, b := range []string{"\v", "\f", "\b", "\x00", "\x1f", "\x7f", "\x85", "\xa0", "\u00a0", "\u2028"} {
		refused(t, b, api.ErrToken, 0)
		refused(t, "a "+b, api.ErrToken, 2)
	}
	found(t, "a%b\nc", name("a", 0), name("c", 4))
	found(t, "a%b\rc\nd", name("a", 0), name("d", 6))
	found(t, "a%b%c", name("a", 0))
	found(t, "1%a", number("1", 0))
	found(t, "a%\n%\nb%", name("a", 0), name("b", 5))
	refused(t, "a%\n#", api.ErrToken, 3)
}

// P4.1: names have up to 20 bytes, the first of which is a letter; no big letter continues one.
func TestNames(t *testing.T) {
	for c := range 26 {
		little, big := string(rune('a'+c)), string(rune('A'+c))
		found(t, little, name(little, 0))
		found(t, big, name(big, 0))
		found(t, "a"+little+"a"+big+"a", name("a"+little+"a", 0), name(big+"a", 3))
	}
	for _, text := range []string{"a0123456789", "A_", "a__1_", "Z9", "a_b", "input"} {
		found(t, text, name(text, 0))
	}
	for _, text := range []string{"abcdefghijklmnopqrst", "A0123456789012345678", "a___________________", strings.Repeat("z", 20)} {
		found(t, text, name(text, 0))
		found(t, text+"G", name(text, 0), name("G", 20))
		found(t, text+"!", name(text, 0), symbol("!", 20))
		for _, c := range []string{"a", "z", "0", "9", "_"} {
			refused(t, text+c, api.ErrToken, 0)
			refused(t, "; "+text+c+"G", api.ErrToken, 2)
		}
	}
	refused(t, strings.Repeat("a", 5999), api.ErrToken, 0)
	found(t, "GFXa", name("G", 0), name("F", 1), name("Xa", 2))
	refused(t, "_", api.ErrToken, 0)
	refused(t, "_a", api.ErrToken, 0)
	refused(t, "a _a", api.ErrToken, 2)
}

// P4.1: numbers have up to 4 digits, no further ones behind a 0 at the beginning, and no letter or _ behind them.
func TestNumbers(t *testing.T) {
	for i := range 10000 {
		text := fmt.Sprint(i)
		found(t, text, number(text, 0))
		found(t, text+"!", number(text, 0), symbol("!", len(text)))
		refused(t, "0"+text, api.ErrToken, 0)
	}
	for _, text := range []string{"00", "000", "0000", "00000", "01", "007", "10000", "12345", "99999", "123456", strings.Repeat("1", 40)} {
		refused(t, text, api.ErrToken, 0)
		refused(t, "ok "+text+" ", api.ErrToken, 3)
	}
	for _, text := range []string{"0", "1", "10", "999", "9999", "07", "12345"} {
		for _, c := range "azAZ_G" {
			refused(t, text+string(c), api.ErrToken, 0)
			refused(t, "="+text+string(c)+"1", api.ErrToken, 1)
		}
	}
	found(t, "0 0", number("0", 0), number("0", 2))
	found(t, "a[0]", name("a", 0), symbol("[", 1), number("0", 2), symbol("]", 3))
	found(t, "1 a", number("1", 0), name("a", 2))
	refused(t, "1é", api.ErrToken, 1)
	refused(t, "1-1", api.ErrToken, 1)
}

// P4.1: the longest symbol is taken, and half a symbol is none.
func TestSymbols(t *testing.T) {
	for _, s := range symbols {
		found(t, s, symbol(s, 0))
		found(t, "a"+s+"1", name("a", 0), symbol(s, 1), number("1", 1+len(s)))
		for _, u := range symbols {
			if s == "!" && u == "=" {
				found(t, s+u, symbol("!=", 0))
				continue
			}
			found(t, s+u, symbol(s, 0), symbol(u, len(s)))
			found(t, s+" "+u, symbol(s, 0), symbol(u, len(s)+1))
		}
	}
	found(t, "!!=", symbol("!", 0), symbol("!=", 1))
	found(t, "!==", symbol("!=", 0), symbol("=", 2))
	found(t, "!", symbol("!", 0))
	found(t, "!->", symbol("!", 0), symbol("->", 1))
	refused(t, "-", api.ErrToken, 0)
	refused(t, ">", api.ErrToken, 0)
	refused(t, "a-", api.ErrToken, 1)
	refused(t, "--", api.ErrToken, 0)
	refused(t, "-->", api.ErrToken, 0)
	refused(t, "->>", api.ErrToken, 2)
	refused(t, "-=", api.ErrToken, 0)
	refused(t, "=>", api.ErrToken, 1)
	refused(t, "!>", api.ErrToken, 1)
}

// P4.1: each byte that begins nothing is an error at its offset, wherever it stands outside comments.
func TestBytes(t *testing.T) {
	begins := "abcdefghijklmnopqrstuvwxyzABCDEFGHIJKLMNOPQRSTUVWXYZ0123456789(){}[],;:=!&| \t\n\r%"
	for c := range 256 {
		text := string([]byte{byte(c)})
		for _, before := range []string{"", "a", "A ", "1", "1 ", "!", "-", "->", "%", "% \n"} {
			for _, after := range []string{"", ">", "=", " ", "a", "1", "\n1"} {
				check(t, before+text+after, defined(before+text+after))
			}
		}
		found(t, "a %"+text+"\n1", name("a", 0), number("1", 5))
		if !strings.Contains(begins, text) {
			refused(t, text, api.ErrToken, 0)
			refused(t, "a "+text, api.ErrToken, 2)
			refused(t, ";"+text+"a", api.ErrToken, 1)
		}
	}
	refused(t, "a é", api.ErrToken, 2)
	refused(t, "a∀", api.ErrToken, 1)
	refused(t, "٣", api.ErrToken, 0)
}

// P4.1: texts have up to 6000 bytes, whatever they are.
func TestLongTexts(t *testing.T) {
	for _, b := range []string{" ", "\n", "%", "%\n"} {
		found(t, strings.Repeat(b, 6000)[:6000])
		refused(t, strings.Repeat(b, 6001)[:6001], api.ErrLimit, 6000)
	}
	filled := func(text string, n int) string { return text + strings.Repeat(" ", n-len(text)) }
	found(t, filled("a", 6000), name("a", 0))
	found(t, strings.Repeat(" ", 5999)+"a", name("a", 5999))
	found(t, strings.Repeat(" ", 5998)+"->", symbol("->", 5998))
	refused(t, strings.Repeat(" ", 5999)+"-", api.ErrToken, 5999)
	for _, text := range []string{"a", "#", "007", "1a", strings.Repeat("a", 21), strings.Repeat(";", 2001)} {
		for _, n := range []int{6001, 6002, 7000, 100000} {
			refused(t, filled(text, n), api.ErrLimit, 6000)
		}
		check(t, filled(text, 6000), defined(text))
	}
	refused(t, strings.Repeat(" ", 6000)+"#", api.ErrLimit, 6000)
}

// P4.1: there are up to 2000 tokens; an error of the 2001st, or before it, comes first, one behind it does not.
func TestManyTokens(t *testing.T) {
	wrong := []string{"-", "#", "\xff", "_", "00", "1a", "12345", strings.Repeat("a", 21)}
	for _, one := range []string{"a ", "; ", "1 ", "A", "!=", "(\n", "->"} {
		full := strings.Repeat(one, 2000)
		if l, e, at := lexer.Lex(full); len(l) != 2000 || e != api.OK || at != -1 || l[1999].At != 1999*len(one) {
			t.Errorf("2000 times %q: %d tokens, %v, %d", one, len(l), e, at)
		}
		for _, text := range []string{" ", "\n%", " % a - b", "%\n \t\r\n%a\n"} {
			check(t, full+text, lex(full))
		}
		for _, more := range []string{"b", "B", "0", "9999", "!", "->", "!=", strings.Repeat("A", 21)} {
			at := len(full) + 1
			refused(t, full+" "+more, api.ErrLimit, at)
			refused(t, full+" "+more+" c d", api.ErrLimit, at)
			for _, w := range wrong {
				refused(t, full+" "+more+" "+w, api.ErrLimit, at)
			}
		}
		for _, w := range wrong {
			refused(t, full+" "+w, api.ErrToken, len(full)+1)
			refused(t, full+"\n"+w+" a", api.ErrToken, len(full)+1)
			begun := full[:1999*len(one)] + " "
			refused(t, begun+w, api.ErrToken, len(begun))
			refused(t, begun+w+" a a", api.ErrToken, len(begun))
			refused(t, "a "+w+" "+full, api.ErrToken, 2)
		}
	}
	refused(t, strings.Repeat(";", 6000), api.ErrLimit, 2000)
	refused(t, strings.Repeat(";", 2000)+"% a\nb", api.ErrLimit, 2004)
}

// P4.1: the first of two errors from the left is returned; that a text is too long comes before all others.
func TestErrorOrder(t *testing.T) {
	wrong := []string{"-", "#", "_", "00", "1a", "12345", strings.Repeat("a", 21)}
	for _, v := range wrong {
		for _, w := range wrong {
			refused(t, v+" "+w, api.ErrToken, 0)
			refused(t, "ab "+v+"\n"+w, api.ErrToken, 3)
			refused(t, strings.Repeat(v+" "+w+" ", 3000), api.ErrLimit, 6000)
		}
	}
	refused(t, "12345a", api.ErrToken, 0)
	refused(t, "a 0012345_#", api.ErrToken, 2)
}

// P4.1: Lex is as defined, for all short texts of bytes that matter and for the sample.
func TestDefinition(t *testing.T) {
	for text := range short("azAZ09_1-\x80", 4) {
		check(t, text, defined(text))
	}
	for text := range short("aG_0->!= %\n", 4) {
		check(t, text, defined(text))
	}
	for text := range short("1a;\r%\n", 6) {
		check(t, text, defined(text))
	}
	for _, text := range texts() {
		check(t, text, defined(text))
	}
}

// P4.2: the tokens stand at their offsets, in order, and only gaps are between them.
func TestCoverage(t *testing.T) {
	for _, text := range right() {
		end := 0
		for _, x := range lex(text).tokens {
			if x.At < end || x.Text == "" || !strings.HasPrefix(text[x.At:], x.Text) || !between.MatchString(text[end:x.At]) {
				t.Fatalf("%q: %v behind %d", text, x, end)
			}
			end = x.At + len(x.Text)
		}
		if !behind.MatchString(text[end:]) {
			t.Fatalf("%q: %d is not the end", text, end)
		}
	}
}

// P4.3: further gaps before, between and after tokens change nothing but the offsets.
func TestFurtherGaps(t *testing.T) {
	r := rand.New(rand.NewSource(5))
	for _, text := range right() {
		var b strings.Builder
		end := 0
		more := func(upTo int) {
			b.WriteString(text[end:upTo])
			end = upTo
			if r.Intn(2) == 0 {
				b.WriteString(space(r))
			}
		}
		var want []api.Token
		for _, x := range lex(text).tokens {
			more(x.At)
			want = append(want, api.Token{Kind: x.Kind, Text: x.Text, At: b.Len()})
			more(x.At + len(x.Text))
		}
		b.WriteString(text[end:])
		if b.Len() <= api.MaxSource {
			found(t, b.String(), want...)
		}
	}
	found(t, " a", name("a", 1))
	found(t, "a ! = b", name("a", 0), symbol("!", 2), symbol("=", 4), name("b", 6))
}

// P4.4: the tokens of two texts, separated by a line feed, are those of the first and then those of the second one.
func TestConcatenation(t *testing.T) {
	l := slices.DeleteFunc(right(), func(text string) bool { return len(text) > 1000 })
	l = append(l, "", "%", "a%b", "1", "a", "!", "=", "% -", "\r")
	r := rand.New(rand.NewSource(6))
	for _, a := range l {
		for range 3 {
			b := l[r.Intn(len(l))]
			want := slices.Clone(lex(a).tokens)
			for _, x := range lex(b).tokens {
				want = append(want, api.Token{Kind: x.Kind, Text: x.Text, At: x.At + len(a) + 1})
			}
			found(t, a+"\n"+b, want...)
		}
	}
}

// P4.5: the error of a text is that of each text that begins with it and a line feed; the text before its offset has none, unless the text is too long.
func TestFirstError(t *testing.T) {
	l := wrong()
	for text := range short("a1-;%", 4) {
		if lex(text).e != api.OK {
			l = append(l, text)
		}
	}
	l = append(l, strings.Repeat(" ", 6001), strings.Repeat("#", 6001))
	for _, text := range l {
		first := lex(text)
		for _, more := range []string{"", "a", "#", "\n>", "% 007"} {
			if len(text)+1+len(more) <= api.MaxSource || first.at == api.MaxSource {
				check(t, text+"\n"+more, first)
			}
		}
		if len(text) > api.MaxSource {
			continue
		}
		if before := lex(text[:first.at]); before.e != api.OK {
			t.Errorf("%q: the text before the error at %d has one at %d", text, first.at, before.at)
		}
	}
}

// P4.6: tokens that are written one after the other, separated by blanks, are the tokens of the result.
func TestWrittenTokens(t *testing.T) {
	r := rand.New(rand.NewSource(7))
	for range 2000 {
		var b strings.Builder
		var want []api.Token
		for range r.Intn(40) {
			text, kind := token(r)
			want = append(want, api.Token{Kind: kind, Text: text, At: b.Len()})
			b.WriteString(text)
			for range 1 + r.Intn(3) {
				b.WriteString(blanks[r.Intn(len(blanks))])
			}
		}
		found(t, b.String(), want...)
	}
}

// P4.7: the text up to the end of a token has the tokens up to this one.
func TestPrefixes(t *testing.T) {
	for _, text := range right() {
		tokens := lex(text).tokens
		for i, x := range tokens {
			if i > 100 && i < len(tokens)-3 {
				continue
			}
			found(t, text[:x.At+len(x.Text)], tokens[:i+1]...)
		}
	}
	text := "!a!=1->b"
	for i, n := range []int{1, 2, 4, 5, 7, 8} {
		found(t, text[:n], lex(text).tokens[:i+1]...)
	}
}

// P3: equal texts yield equal results, and later calls leave earlier results as they are.
func TestIndependence(t *testing.T) {
	l := texts()
	var first []result
	for _, text := range l {
		first = append(first, lex(text))
	}
	for i := range l {
		j := len(l) - 1 - i
		if got := lex(strings.Clone(l[j])); !got.equal(first[j]) {
			t.Errorf("%.60q: %.300s, then %.300s", l[j], fmt.Sprint(first[j]), fmt.Sprint(got))
		}
	}
}
