package word_test

import (
	"math"
	"math/rand"
	"slices"
	"testing"

	"foresight/api"
	"foresight/word"
)

func lasso(stem []int, loop ...int) api.Lasso { return api.Lasso{Stem: stem, Loop: loop} }

func equal(a, b api.Lasso) bool {
	return slices.Equal(a.Stem, b.Stem) && slices.Equal(a.Loop, b.Loop)
}

func zero(w api.Lasso) bool { return len(w.Stem) == 0 && len(w.Loop) == 0 }

func clone(w api.Lasso) api.Lasso {
	return api.Lasso{Stem: slices.Clone(w.Stem), Loop: slices.Clone(w.Loop)}
}

// unroll computes the first n letters of a word by the definition; the lasso need not be formed.
func unroll(w api.Lasso, n int) []int {
	l := slices.Clone(w.Stem)
	for len(l) < n {
		l = append(l, w.Loop...)
	}
	return l[:n]
}

// shortest finds the normal lasso of the word of a lasso, within the limits or not, by trying all loops and stems, the shortest first.
func shortest(w api.Lasso) api.Lasso {
	stem, loop := len(w.Stem), len(w.Loop)
	letters := unroll(w, stem+2*loop)
	for p := 1; p <= loop; p++ {
		for s := 0; s <= stem; s++ {
			// Two loops of loop and p letters are the same word if they agree for loop + p letters.
			if slices.Equal(letters[s:stem+loop], letters[s+p:stem+loop+p]) {
				return clone(lasso(letters[:s], letters[s:s+p]...))
			}
		}
	}
	panic("a lasso is no lasso of its word")
}

// lists yields all lists of up to n letters less than k.
func lists(k, n int) func(func([]int) bool) {
	return func(yield func([]int) bool) {
		var grow func(l []int) bool
		grow = func(l []int) bool {
			if !yield(l) {
				return false
			}
			for x := range k {
				if len(l) < n && !grow(append(slices.Clone(l), x)) {
					return false
				}
			}
			return true
		}
		grow(nil)
	}
}

// small yields all lassos with two letters and a short Stem and Loop.
func small(yield func(api.Lasso) bool) {
	for stem := range lists(2, 4) {
		for loop := range lists(2, 6) {
			if len(loop) > 0 && !yield(lasso(stem, loop...)) {
				return
			}
		}
	}
}

func list(r *rand.Rand, k, n int) []int {
	l := make([]int, n)
	for i := range l {
		l[i] = r.Intn(k)
	}
	return l
}

// large returns formed lassos of all lengths, many of which repeat shorter lists and end as the loop does. They are always the same.
func large() []api.Lasso {
	r := rand.New(rand.NewSource(2))
	var l []api.Lasso
	for range 400 {
		n := 1 + r.Intn(api.MaxLoop)
		loop := list(r, 1+r.Intn(3), n)
		for _, d := range []int{1 + r.Intn(n), n} {
			if n%d == 0 {
				loop = unroll(lasso(nil, loop[:d]...), n)
				break
			}
		}
		stem := list(r, 1+r.Intn(3), r.Intn(api.MaxStem+1))
		back := r.Intn(len(stem) + 1)
		for i := range back {
			stem[len(stem)-1-i] = loop[n-1-i%n]
		}
		l = append(l, lasso(stem, loop...))
	}
	full := list(r, 64, api.MaxStem)
	return append(l, lasso(full, list(r, 64, api.MaxLoop)...), lasso(full, 63), lasso(make([]int, 60), make([]int, 40)...), lasso(full, unroll(lasso(nil, 1, 2), 40)...))
}

// tried returns the small and the large lassos.
func tried() []api.Lasso {
	return append(slices.Collect(small), large()...)
}

// unformed are lassos that are not formed.
func unformed() map[string]api.Lasso {
	return map[string]api.Lasso{
		"zero":               {},
		"no loop":            lasso([]int{1, 2}),
		"empty loop":         {Stem: []int{1}, Loop: []int{}},
		"long stem":          lasso(make([]int, 61), 1),
		"long stem, as loop": lasso(make([]int, 61), 0),
		"longer stem":        lasso(make([]int, 1000), 1),
		"long loop":          lasso(nil, make([]int, 41)...),
		"long loop of pairs": lasso(nil, unroll(lasso(nil, 0, 1), 42)...),
		"longer loop":        lasso([]int{1}, make([]int, 1000)...),
		"64 in the stem":     lasso([]int{1, 64, 1}, 1),
		"64 in the loop":     lasso(nil, 64),
		"64 in both":         lasso([]int{64}, 64),
		"-1 in the stem":     lasso([]int{-1}, 1),
		"-1 in the loop":     lasso(nil, 1, -1),
		"largest":            lasso(nil, 0, math.MaxInt),
		"least":              lasso([]int{math.MinInt}, 0),
	}
}

// P2.1: the examples of the chapter.
func TestExamples(t *testing.T) {
	if w := word.Normal(lasso([]int{1, 2}, 3, 2, 3, 2)); !equal(w, lasso([]int{1}, 2, 3)) {
		t.Error("Normal:", w)
	}
	if w := word.Suffix(lasso([]int{1}, 2, 3), 2); !equal(w, lasso(nil, 3, 2)) {
		t.Error("Suffix:", w)
	}
	if w := word.Push([]int{2, 3}, lasso(nil, 2, 3)); !equal(w, lasso(nil, 2, 3)) {
		t.Error("Push:", w)
	}
	if w := word.Zip(lasso(nil, 0, 1), lasso(nil, 0, 0, 1), [][]int{{0, 1}, {1, 0}}); !equal(w, lasso(nil, 0, 1, 1, 1, 0, 0)) {
		t.Error("Zip:", w)
	}
	if x := word.At(lasso([]int{1}, 2, 3), 4); x != 3 {
		t.Error("At:", x)
	}
}

// P2.1 (B1)
func TestValid(t *testing.T) {
	for i, c := range []struct {
		letters int
		w       api.Lasso
		want    bool
	}{
		{1, lasso(nil, 0), true}, {0, lasso(nil, 0), false}, {-1, lasso(nil, 0), false}, {math.MinInt, lasso(nil, 0), false},
		{3, lasso([]int{2}, 1), true}, {2, lasso([]int{2}, 1), false}, {2, lasso([]int{1, 0, 2, 0}, 1), false},
		{3, lasso([]int{1}, 2), true}, {2, lasso([]int{1}, 2), false}, {2, lasso([]int{1}, 0, 2, 0), false},
		{64, lasso([]int{63}, 63), true}, {63, lasso([]int{63}, 0), false}, {63, lasso(nil, 63), false},
		{65, lasso(nil, 63), true}, {65, lasso(nil, 64), false}, {65, lasso([]int{64}, 0), false}, {math.MaxInt, lasso(nil, 63), true}, {math.MaxInt, lasso(nil, 1000), false},
		{1, lasso(make([]int, 60), make([]int, 40)...), true},
	} {
		if word.Valid(c.letters, c.w) != c.want {
			t.Errorf("case %d: %v with %d letters", i, c.w, c.letters)
		}
	}
	for name, w := range unformed() {
		for _, letters := range []int{-1, 0, 1, 2, 63, 64, 65, 1001, math.MaxInt} {
			if word.Valid(letters, w) {
				t.Errorf("%s: accepted with %d letters", name, letters)
			}
		}
	}
	for _, w := range tried() {
		most := max(slices.Max(w.Loop), slices.Max(append([]int{0}, w.Stem...)))
		for letters := range 66 {
			if word.Valid(letters, w) != (most < letters) {
				t.Errorf("%v with %d letters", w, letters)
			}
		}
	}
}

// P2.1 (B1 to B5): what all functions return for lassos that are not formed.
func TestUnformed(t *testing.T) {
	good := lasso(nil, 0)
	for name, w := range unformed() {
		for _, n := range []int{-1, 0, 1, 61, 500, math.MaxInt} {
			if x := word.At(w, n); x != -1 {
				t.Errorf("%s: %d at %d", name, x, n)
			}
			if l := word.Prefix(w, n); len(l) != 0 {
				t.Errorf("%s: prefix %v", name, l)
			}
			if s := word.Suffix(w, n); !zero(s) {
				t.Errorf("%s: suffix %v", name, s)
			}
		}
		if s := word.Normal(w); !zero(s) {
			t.Errorf("%s: normal lasso %v", name, s)
		}
		if word.Same(w, w) || word.Same(w, clone(w)) || word.Same(w, good) || word.Same(good, w) || word.Same(w, api.Lasso{}) {
			t.Errorf("%s: the same as another one", name)
		}
		if s := word.Push(nil, w); !zero(s) {
			t.Errorf("%s: pushed %v", name, s)
		}
		if s := word.Push([]int{1, 2}, w); !zero(s) {
			t.Errorf("%s: pushed %v", name, s)
		}
		table := [][]int{make([]int, 70), make([]int, 70), make([]int, 70)}
		for len(table) < 70 {
			table = append(table, table[0])
		}
		if a, b := word.Zip(w, good, table), word.Zip(good, w, table); !zero(a) || !zero(b) {
			t.Errorf("%s: zipped %v, %v", name, a, b)
		}
	}
}

// P2.1 (B2)
func TestAt(t *testing.T) {
	for _, w := range tried() {
		letters := unroll(w, 700)
		for i, x := range letters {
			if word.At(w, i) != x {
				t.Fatalf("%v: %d at %d", w, word.At(w, i), i)
			}
		}
		for _, i := range []int{-1, -2, -len(w.Stem) - 1, -1000, math.MinInt} {
			if x := word.At(w, i); x != -1 {
				t.Fatalf("%v: %d at %d", w, x, i)
			}
		}
		for _, i := range []int{1 << 31, 1 << 40, math.MaxInt - 1, math.MaxInt} {
			if x := word.At(w, i); x != w.Loop[(i-len(w.Stem))%len(w.Loop)] {
				t.Fatalf("%v: %d at %d", w, x, i)
			}
		}
	}
}

// P2.1 (B2)
func TestPrefix(t *testing.T) {
	for i, w := range tried() {
		letters := unroll(w, 500)
		for n := range 501 {
			if n > 20 && n < 490 && (n+i)%37 != 0 {
				continue
			}
			if got := word.Prefix(w, n); !slices.Equal(got, letters[:n]) {
				t.Fatalf("%v: the first %d letters are %v", w, n, got)
			}
		}
		for _, n := range []int{501, 502, 1 << 40, math.MaxInt, -1, -500, math.MinInt} {
			if got := word.Prefix(w, n); len(got) != 0 {
				t.Fatalf("%v: prefix for %d: %v", w, n, got)
			}
		}
	}
}

// P2.2: the normal lasso against the definition; no shorter lasso has the word, and all lassos of the word have the same one.
func TestNormal(t *testing.T) {
	for _, w := range tried() {
		got := word.Normal(w)
		if want := shortest(w); !equal(got, want) {
			t.Fatalf("%v: %v, not %v", w, got, want)
		}
		if !slices.Equal(unroll(got, 500), unroll(w, 500)) {
			t.Fatalf("%v: another word: %v", w, got)
		}
		if !equal(word.Normal(got), got) {
			t.Fatalf("%v: %v is not normal", w, got)
		}
	}
	// Longer lassos of the same word: the loop repeated, and turned into the stem.
	for w := range small {
		want := word.Normal(w)
		for times := 1; times*len(w.Loop) <= 40; times++ {
			for more := 0; len(w.Stem)+more <= 60; more += 7 {
				l := unroll(w, len(w.Stem)+more+times*len(w.Loop))
				other := lasso(l[:len(w.Stem)+more], l[len(w.Stem)+more:]...)
				if got := word.Normal(other); !equal(got, want) {
					t.Fatalf("%v: %v, not %v", other, got, want)
				}
			}
		}
	}
}

// P2.2: no lasso with a shorter Stem or Loop has the word, among all small ones.
func TestNormalIsShortest(t *testing.T) {
	groups := map[string][]api.Lasso{}
	for w := range small {
		var key []byte
		for _, x := range unroll(w, 20) {
			key = append(key, byte('0'+x))
		}
		groups[string(key)] = append(groups[string(key)], w)
	}
	for _, l := range groups {
		n := word.Normal(l[0])
		for _, w := range l {
			if !equal(word.Normal(w), n) || len(w.Stem) < len(n.Stem) || len(w.Loop) < len(n.Loop) {
				t.Fatalf("%v is not the normal lasso of %v", n, w)
			}
		}
	}
}

// agreeing returns two words with loops of p and q letters that agree for as long as words with different loops can: p + q - gcd(p, q) - 1 letters.
func agreeing(p, q, gcd int) (api.Lasso, api.Lasso) {
	n := p + q - gcd - 1
	parent := make([]int, n)
	for i := range parent {
		parent[i] = i
	}
	var root func(i int) int
	root = func(i int) int {
		if parent[i] != i {
			return root(parent[i])
		}
		return i
	}
	for i := range n {
		for _, d := range []int{p, q} {
			if i+d < n {
				parent[root(i+d)] = root(i)
			}
		}
	}
	number := map[int]int{}
	l := make([]int, n)
	for i := range n {
		r := root(i)
		if _, ok := number[r]; !ok {
			number[r] = len(number)
		}
		l[i] = number[r]
	}
	return lasso(nil, l[:p]...), lasso(nil, l[:q]...)
}

// P2.3
func TestSame(t *testing.T) {
	check := func(l []api.Lasso, step int) {
		letters := make([][]int, len(l))
		for i, w := range l {
			letters[i] = unroll(w, 140)
		}
		for i, a := range l {
			for j := i % step; j < len(l); j += step {
				b := l[j]
				want := slices.Equal(letters[i], letters[j])
				if word.Same(a, b) != want || equal(word.Normal(a), word.Normal(b)) != want {
					t.Fatalf("%v and %v", a, b)
				}
			}
			if !word.Same(a, word.Normal(a)) || !word.Same(word.Normal(a), a) || !word.Same(a, a) {
				t.Fatalf("%v and its normal lasso", a)
			}
		}
	}
	check(slices.Collect(small), 61)
	check(large(), 1)
}

// P2.3: words that differ as late as they can are not the same.
func TestSameLate(t *testing.T) {
	stem := make([]int, 60)
	for i := range stem {
		stem[i] = i
	}
	for _, c := range [][3]int{{39, 40, 1}, {37, 40, 1}, {36, 40, 4}, {38, 40, 2}, {2, 3, 1}} {
		a, b := agreeing(c[0], c[1], c[2])
		n := c[0] + c[1] - c[2] - 1
		x, y := unroll(a, n+1), unroll(b, n+1)
		if !slices.Equal(x[:n], y[:n]) || x[n] == y[n] {
			t.Fatalf("%v: words that do not differ first at %d", c, n)
		}
		if word.Same(a, b) || equal(word.Normal(a), word.Normal(b)) {
			t.Errorf("%v: loops %v and %v", c, a.Loop, b.Loop)
		}
		a.Stem, b.Stem = stem, stem
		if word.Same(a, b) || equal(word.Normal(a), word.Normal(b)) {
			t.Errorf("%v: with a stem", c)
		}
	}
	if word.Same(lasso(stem, 1), lasso(append(slices.Clone(stem[:59]), 0), 1)) {
		t.Error("stems that differ at the end")
	}
}

// P2.1 (B4), P2.4
func TestSuffix(t *testing.T) {
	for _, w := range tried() {
		letters := unroll(w, 500)
		for n := 0; n <= 130; n += 1 + n/5 {
			s := word.Suffix(w, n)
			if !equal(s, word.Normal(s)) || !equal(s, shortest(lasso(letters[n:n+60], letters[n+60:n+60+len(w.Loop)]...))) {
				t.Fatalf("%v: suffix by %d: %v", w, n, s)
			}
			for i := range 200 {
				if word.At(s, i) != letters[n+i] {
					t.Fatalf("%v: suffix by %d, at %d", w, n, i)
				}
			}
			for m := 0; m < 70; m += 1 + m {
				if !equal(word.Suffix(s, m), word.Suffix(w, n+m)) {
					t.Fatalf("%v: suffix by %d, then by %d", w, n, m)
				}
			}
		}
		for _, n := range []int{-1, -len(w.Loop), -1000, math.MinInt} {
			if s := word.Suffix(w, n); !zero(s) {
				t.Fatalf("%v: suffix by %d: %v", w, n, s)
			}
		}
		for _, n := range []int{1 << 40, math.MaxInt - 1, math.MaxInt} {
			left := (n - len(w.Stem)) % len(w.Loop)
			if s := word.Suffix(w, n); !equal(s, word.Suffix(w, len(w.Stem)+left)) {
				t.Fatalf("%v: suffix by %d: %v", w, n, s)
			}
		}
	}
}

// P2.5
func TestPrefixAndSuffix(t *testing.T) {
	for _, w := range tried() {
		for n := 0; n <= 500; n += 1 + n/9 {
			if got := word.Push(word.Prefix(w, n), word.Suffix(w, n)); !equal(got, word.Normal(w)) {
				t.Fatalf("%v: after %d letters: %v", w, n, got)
			}
		}
	}
}

// P2.1 (B4), P2.6
func TestPush(t *testing.T) {
	r := rand.New(rand.NewSource(3))
	some := slices.Collect(lists(2, 3))
	some = append(some, list(r, 2, 30), list(r, 64, 60), make([]int, 200), unroll(lasso(nil, 0, 1), 90))
	none := 0
	for _, w := range tried() {
		for i, l := range some {
			got := word.Push(l, w)
			want := shortest(lasso(slices.Concat(l, w.Stem), w.Loop...))
			if len(want.Stem) > 60 {
				none++
				want = api.Lasso{}
			}
			if !equal(got, want) {
				t.Fatalf("%v pushed to %v: %v", l, w, got)
			}
			if zero(got) {
				continue
			}
			if !slices.Equal(word.Prefix(got, len(l)), l) || !equal(word.Suffix(got, len(l)), word.Normal(w)) {
				t.Fatalf("%v pushed to %v: %v", l, w, got)
			}
			first := some[(i*5+3)%15]
			if both := word.Push(slices.Concat(first, l), w); !equal(word.Push(first, got), both) {
				t.Fatalf("%v and %v pushed to %v", first, l, w)
			}
		}
	}
	if none == 0 {
		t.Error("no stem was too long")
	}
}

// P2.1 (B4): letters that are none, and stems at the limit.
func TestPushLimits(t *testing.T) {
	full := make([]int, 60)
	for i, c := range []struct {
		letters []int
		w, want api.Lasso
	}{
		{[]int{64}, lasso(nil, 1), api.Lasso{}}, {[]int{-1}, lasso(nil, 1), api.Lasso{}}, {[]int{1, 64, 1}, lasso(nil, 1), api.Lasso{}}, {[]int{1, 1, math.MinInt}, lasso(nil, 1), api.Lasso{}}, {[]int{math.MaxInt, 1}, lasso(nil, 1), api.Lasso{}},
		{[]int{63}, lasso(nil, 1), lasso([]int{63}, 1)}, {[]int{0}, lasso(nil, 63), lasso([]int{0}, 63)},
		{nil, lasso([]int{1, 2}, 2), lasso([]int{1}, 2)}, {nil, lasso(full, 1), lasso(full, 1)},
		{full, lasso(nil, 1), lasso(full, 1)}, {append(full, 0), lasso(nil, 1), api.Lasso{}}, {[]int{0}, lasso(full, 1), api.Lasso{}}, {full[:59], lasso([]int{0}, 1), lasso(full, 1)}, {full[:59], lasso([]int{0, 0}, 1), api.Lasso{}},
		{append(full, 1), lasso(nil, 1), lasso(full, 1)}, {append(full, 1, 2), lasso([]int{1, 2}, 1, 2), lasso(full, 1, 2)}, {full[:2], lasso(append(slices.Clone(full[:58]), 1, 1), 1), lasso(full, 1)},
		{make([]int, 100000), lasso(full, 0, 0), lasso(nil, 0)}, {make([]int, 100000), lasso(nil, 1), api.Lasso{}},
	} {
		if got := word.Push(c.letters, c.w); !equal(got, c.want) {
			t.Errorf("case %d: %v", i, got)
		}
	}
}

// zipped computes the result of Zip by the definition, as long as the table has all elements.
func zipped(a, b api.Lasso, table [][]int) api.Lasso {
	stem := max(len(a.Stem), len(b.Stem))
	loop := len(a.Loop) * len(b.Loop)
	x, y := unroll(a, stem+loop), unroll(b, stem+loop)
	l := make([]int, stem+loop)
	for i := range l {
		l[i] = table[x[i]][y[i]]
	}
	w := shortest(lasso(l[:stem], l[stem:]...))
	if len(w.Stem) > 60 || len(w.Loop) > 40 {
		return api.Lasso{}
	}
	return w
}

// P2.1 (B5), P2.7
func TestZip(t *testing.T) {
	tables := [][][]int{{{0, 1}, {1, 0}}, {{0, 1}, {2, 3}}, {{0, 0}, {0, 63}}, {{5, 5}, {5, 5}}, {{0, 1, 9}, {0, 1}, nil}}
	all := slices.Collect(small)
	for i := 0; i < len(all); i += 11 {
		for j := i % 37; j < len(all); j += 37 {
			a, b, table := all[i], all[j], tables[(i+j)%len(tables)]
			got := word.Zip(a, b, table)
			if !equal(got, zipped(a, b, table)) || !equal(got, word.Normal(got)) {
				t.Fatalf("%v and %v with %v: %v", a, b, table, got)
			}
			for n := range 40 {
				if word.At(got, n) != table[word.At(a, n)][word.At(b, n)] {
					t.Fatalf("%v and %v with %v: at %d", a, b, table, n)
				}
			}
			for n := range 9 {
				if !equal(word.Suffix(got, n), word.Zip(word.Suffix(a, n), word.Suffix(b, n), table)) {
					t.Fatalf("%v and %v with %v: suffix by %d", a, b, table, n)
				}
			}
		}
	}
}

// P2.7: a table that has the first letter everywhere.
func TestZipFirst(t *testing.T) {
	table := make([][]int, 64)
	for x := range table {
		table[x] = slices.Repeat([]int{x}, 64)
	}
	l := large()
	for i, a := range l {
		for j := range 12 {
			b := l[(i*7+j*31)%len(l)]
			if got := word.Zip(a, b, table); !equal(got, word.Normal(a)) {
				t.Fatalf("%v and %v: %v", a, b, got)
			}
		}
	}
}

// P2.1 (B5), P2.7: long lassos, whose common loop is within the limit or not.
func TestZipLong(t *testing.T) {
	table := [][]int{{0, 1, 2}, {3, 4, 5}, {6, 7, 8}}
	formed, none := 0, 0
	l := large()
	for i, a := range l {
		for j := range 6 {
			b := l[(i*13+j*17)%len(l)]
			if !word.Valid(3, a) || !word.Valid(3, b) {
				continue
			}
			got, want := word.Zip(a, b, table), zipped(a, b, table)
			if !equal(got, want) {
				t.Fatalf("%v and %v: %v, not %v", a, b, got, want)
			}
			if zero(want) {
				none++
			} else {
				formed++
			}
		}
	}
	if formed < 20 || none < 20 {
		t.Errorf("%d formed, %d not", formed, none)
	}
}

// P2.1 (B5): tables without an element, or with one that is no letter; limits of the result.
func TestZipLimits(t *testing.T) {
	one := lasso(nil, 0)
	stem := make([]int, 60)
	pair := lasso(nil, 0, 1)
	both := [][]int{{0, 1}, {2, 3}}
	count := func(n int) api.Lasso {
		w := lasso(nil)
		for i := range n {
			w.Loop = append(w.Loop, i)
		}
		return w
	}
	add := make([][]int, 5)
	for x := range add {
		for y := range 8 {
			add[x] = append(add[x], x*8+y)
		}
	}
	var want []int
	for i := range 40 {
		want = append(want, i%5*8+i%8)
	}
	for i, c := range []struct {
		a, b  api.Lasso
		table [][]int
		want  api.Lasso
	}{
		{one, one, nil, api.Lasso{}}, {one, one, [][]int{}, api.Lasso{}}, {one, one, [][]int{nil}, api.Lasso{}}, {one, one, [][]int{nil, {0}}, api.Lasso{}}, {one, one, [][]int{{0}}, one}, {one, one, [][]int{{63, 64}, {64}}, lasso(nil, 63)},
		{one, one, [][]int{{64}}, api.Lasso{}}, {one, one, [][]int{{-1}}, api.Lasso{}}, {one, one, [][]int{{math.MaxInt}}, api.Lasso{}}, {one, one, [][]int{{math.MinInt}}, api.Lasso{}},
		{pair, one, [][]int{{0}}, api.Lasso{}}, {one, pair, [][]int{{0}}, api.Lasso{}}, {pair, one, [][]int{{0}, {}}, api.Lasso{}}, {one, pair, [][]int{{0, 1}}, pair}, {pair, one, [][]int{{0}, {1}}, pair}, {pair, one, [][]int{{0}, {64}}, api.Lasso{}}, {one, pair, [][]int{{0, -1}}, api.Lasso{}},
		{pair, pair, [][]int{{7}, {0, 8}}, lasso(nil, 7, 8)}, {pair, pair, [][]int{{7, 64}, {-1, 8}}, lasso(nil, 7, 8)},
		{lasso(append(slices.Clone(stem[:59]), 1), 0), one, [][]int{{0}}, api.Lasso{}}, {lasso(append(slices.Clone(stem[:59]), 1), 0), one, [][]int{{0}, {64}}, api.Lasso{}}, {lasso(append(slices.Clone(stem[:59]), 1), 0), one, [][]int{{0}, {1}}, lasso(append(slices.Clone(stem[:59]), 1), 0)},
		{lasso([]int{1}, 0), lasso([]int{0}, 0, 1), [][]int{{2, 3}, {4}}, lasso([]int{4}, 2, 3)},
		{lasso(nil, 1, 0), lasso([]int{1}, 0, 1), both, lasso(nil, 3, 0)},
		{count(5), count(8), add, lasso(nil, want...)},
		{lasso(stem, 1), lasso([]int{1, 1}, 0), both, lasso(append([]int{1, 1}, stem[:58]...), 2)},
	} {
		if got := word.Zip(c.a, c.b, c.table); !equal(got, c.want) {
			t.Errorf("case %d: %v", i, got)
		}
	}
	// The last pair of a common loop of 1560 letters is the only one without an element.
	a, b := lasso(nil, append(make([]int, 38), 1)...), lasso(nil, append(make([]int, 39), 1)...)
	for i, c := range []struct {
		table [][]int
		want  api.Lasso
	}{
		{[][]int{{0, 0}, {0}}, api.Lasso{}}, {[][]int{{0, 0}, {0, 64}}, api.Lasso{}}, {[][]int{{0, 0}, {0, 0}}, one}, {[][]int{{0, 0}, {0, 1}}, api.Lasso{}}, {[][]int{{0, 0}, {1, 1}}, a}, {[][]int{{0, 1}, {0, 1}}, b},
	} {
		if got := word.Zip(a, b, c.table); !equal(got, c.want) {
			t.Errorf("late case %d: %v", i, got)
		}
	}
}

// P3 and the rules: equal arguments yield equal results, arguments are not modified, and results share no memory.
func TestIndependence(t *testing.T) {
	w := lasso([]int{1, 2, 1, 2}, 3, 4, 3, 4)
	pushed, table := []int{3, 4}, [][]int{{0, 0, 0, 0, 0}, {0, 1, 1, 1, 1}, {0, 1, 2, 2, 2}, {0, 1, 2, 3, 3}, {0, 1, 2, 3, 4}}
	calls := map[string]func() api.Lasso{
		"Normal": func() api.Lasso { return word.Normal(w) },
		"Suffix": func() api.Lasso { return word.Suffix(w, 1) },
		"Push":   func() api.Lasso { return word.Push(pushed, w) },
		"Zip":    func() api.Lasso { return word.Zip(w, w, table) },
		"Prefix": func() api.Lasso { return lasso(nil, word.Prefix(w, 20)...) },
	}
	for name, call := range calls {
		first := call()
		kept := clone(first)
		for _, l := range [][]int{first.Stem, first.Loop} {
			l = l[:cap(l)]
			for i := range l {
				l[i] = 50 + len(first.Stem)
			}
		}
		if !equal(call(), kept) {
			t.Errorf("%s: a result shares memory", name)
		}
		second := call()
		for i := range second.Stem[:cap(second.Stem)] {
			second.Stem[:cap(second.Stem)][i] = 60
		}
		if !slices.Equal(second.Loop, kept.Loop) {
			t.Errorf("%s: Stem and Loop share memory", name)
		}
	}
	if !equal(w, lasso([]int{1, 2, 1, 2}, 3, 4, 3, 4)) || !slices.Equal(pushed, []int{3, 4}) || table[3][3] != 3 {
		t.Error("arguments are modified")
	}
	if !word.Same(w, w) || !word.Valid(5, w) || word.At(w, 5) != 4 || !equal(w, lasso([]int{1, 2, 1, 2}, 3, 4, 3, 4)) {
		t.Error("arguments are modified")
	}
}
