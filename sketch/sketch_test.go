package sketch

import (
	"math"
	"math/big"
	"slices"
	"testing"

	"raftsman/api"
	"raftsman/spread"
)

// p is written in digits, so that a wrong api.P would be told, too.
const p = 2305843009213693951

// rows are r hashes all over the numbers below P.
func rows(r int) []api.Hash {
	list := make([]api.Hash, r)
	words := spread.Words(2 * r)
	for i := range list {
		list[i] = api.Hash{A: words[2*i] % p, B: words[2*i+1] % p}
	}
	return list
}

// edge is the name of the edge of u and v, u the lesser one.
func edge(u, v uint64) uint64 { return u*16777216 + v }

// edges are names of edges, unlike one another; the last ones are of the greatest vertices.
func edges() []uint64 {
	var list []uint64
	for u := range uint64(5) {
		for v := u + 1; v < 8; v++ {
			list = append(list, edge(u, v*v*v))
		}
	}
	return append(list, edge(0, 16777215), edge(16777213, 16777214), edge(16777214, 16777215))
}

// numbers are names of edges, and such as are no edge's.
func numbers() []uint64 {
	list := append(edges(), 0, edge(1, 0), edge(7, 7), 1<<48, 1<<60, p-1, p, p+1, 1<<63, math.MaxUint64)
	return append(list, spread.Words(9)...)
}

func toBig(n uint64) *big.Int { return new(big.Int).SetUint64(n) }

// deep is how deep a name goes of v levels, in numbers that have no end.
func deep(h api.Hash, name uint64, v int) int {
	value := new(big.Int).Mul(toBig(h.A), toBig(name))
	value.Add(value, toBig(h.B)).Mod(value, toBig(p))
	count := 0
	for bound := uint64(p); count < v && value.Cmp(toBig(bound)) < 0; bound /= 2 {
		count++
	}
	return count
}

// toggled are the words of names, each word asked by itself.
func toggled(l []api.Hash, v int, names []uint64) []uint64 {
	var words []uint64
	for _, h := range l {
		for level := range v {
			word := uint64(0)
			for _, name := range names {
				if level < deep(h, name, v) {
					word ^= name
				}
			}
			words = append(words, word)
		}
	}
	return words
}

func newSketch(t *testing.T, r, v int) Sketch {
	t.Helper()
	s, err := New(r, v)
	if err != api.OK || s.R != r || s.V != v || len(s.Words) != r*v {
		t.Fatalf("New(%d, %d): %v, %d", r, v, s, err)
	}
	return s
}

// with is s, names toggled one by one.
func with(t *testing.T, s Sketch, l []api.Hash, names ...uint64) Sketch {
	t.Helper()
	for _, name := range names {
		next, err := Toggle(s, l, name)
		if err != api.OK || next.R != s.R || next.V != s.V || len(next.Words) != len(s.Words) {
			t.Fatalf("Toggle(%v, %v, %d): %v, %d", s, l, name, next, err)
		}
		s = next
	}
	return s
}

func merged(t *testing.T, a, b Sketch) Sketch {
	t.Helper()
	m, err := Merge(a, b)
	if err != api.OK || m.R != a.R || m.V != a.V || len(m.Words) != len(a.Words) {
		t.Fatalf("Merge(%v, %v): %v, %d", a, b, m, err)
	}
	return m
}

func checkWords(t *testing.T, what string, s Sketch, want ...uint64) {
	t.Helper()
	if !slices.Equal(s.Words, want) {
		t.Errorf("%s: %v, want %v", what, s.Words, want)
	}
}

func checkNames(t *testing.T, s Sketch, want ...uint64) {
	t.Helper()
	if l := Names(s); !slices.Equal(l, want) {
		t.Errorf("Names(%v): %v, want %v", s, l, want)
	}
}

func isNothing(s Sketch) bool { return s.R == 0 && s.V == 0 && len(s.Words) == 0 }

// wrongSizes are what rows and levels can't be; some are right in their lowest 8 or 32 bits.
func wrongSizes() [][2]int {
	list := [][2]int{{9, 1}, {10, 1}, {1, 62}, {1, 63}, {1, 64}, {8, 62}, {9, 61}, {61, 8}, {16, 16}, {0, 0}, {-1, -1}, {-2, -3}}
	for _, n := range []int{0, -1, -8, math.MinInt, math.MinInt32, 256, 257, 1 << 32, 1<<32 + 1, math.MaxInt32, math.MaxInt} {
		list = append(list, [2]int{n, 1}, [2]int{1, n}, [2]int{n, 5}, [2]int{5, n}, [2]int{n, n})
	}
	return list
}

// wrong are no sketches; the words of most are as many as rows times levels, be it that this wraps round.
func wrong() []Sketch {
	one := edge(3, 5)
	list := []Sketch{
		{},
		{Words: []uint64{one}},
		{R: 1, V: 1},
		{R: 1, V: 1, Words: []uint64{one, one}},
		{R: 2, V: 3, Words: slices.Repeat([]uint64{one}, 5)},
		{R: 2, V: 3, Words: slices.Repeat([]uint64{one}, 7)},
		{R: 2, V: 3, Words: slices.Repeat([]uint64{one}, 3)},
		{R: 2, V: 3, Words: slices.Repeat([]uint64{one}, 12)},
		{R: 8, V: 61, Words: slices.Repeat([]uint64{one}, 487)},
		{R: 8, V: 61, Words: slices.Repeat([]uint64{one}, 489)},
		{R: 1 << 62, V: 4},
		{R: 4, V: 1 << 62},
		{R: 1 << 32, V: 1 << 32},
		// 3 times this is 2^64, and 2.
		{R: 3, V: math.MaxInt/3*2 + 2, Words: slices.Repeat([]uint64{one}, 2)},
	}
	for _, size := range wrongSizes() {
		if many := size[0] * size[1]; 0 <= many && many <= 1<<16 {
			list = append(list, Sketch{R: size[0], V: size[1], Words: slices.Repeat([]uint64{one}, many)})
		}
	}
	return list
}

// P5.1
func TestNewOfAllSizes(t *testing.T) {
	for r := 1; r <= 8; r++ {
		for v := 1; v <= 61; v++ {
			s := newSketch(t, r, v)
			checkWords(t, "New", s, make([]uint64, r*v)...)
			if !Right(s) {
				t.Errorf("New(%d, %d) is no sketch", r, v)
			}
			checkNames(t, s)
		}
	}
}

// P5.1
func TestNewOfWrongSizes(t *testing.T) {
	for _, size := range wrongSizes() {
		if s, err := New(size[0], size[1]); err != api.ErrArg || !isNothing(s) {
			t.Errorf("New(%d, %d): %v, %d", size[0], size[1], s, err)
		}
	}
}

// P5.1: each New has words of its own.
func TestNewSharesNoWords(t *testing.T) {
	a, b := newSketch(t, 1, 2), newSketch(t, 1, 2)
	a.Words[0] = 9
	checkWords(t, "another one", b, 0, 0)
	checkWords(t, "New", newSketch(t, 1, 2), 0, 0)
}

// P5.1: words may be any numbers.
func TestRight(t *testing.T) {
	for r := 1; r <= 8; r++ {
		for v := 1; v <= 61; v++ {
			if s := (Sketch{R: r, V: v, Words: spread.Words(r * v)}); !Right(s) {
				t.Errorf("%d rows of %d levels are no sketch", r, v)
			}
			for _, many := range []int{0, 1, r, v, r*v - 1, r*v + 1, 2 * r * v} {
				s := Sketch{R: r, V: v, Words: make([]uint64, many, 2*r*v)}
				if Right(s) != (many == r*v) {
					t.Errorf("%d words, and %d rows of %d levels: %v", many, r, v, Right(s))
				}
			}
		}
	}
}

// P5.1
func TestRightOfWhatIsNoSketch(t *testing.T) {
	for _, s := range wrong() {
		if Right(s) {
			t.Errorf("%v is a sketch", s)
		}
	}
	for _, size := range wrongSizes() {
		if Right(Sketch{R: size[0], V: size[1]}) {
			t.Errorf("%v is a sketch", size)
		}
	}
}

// P5.1: down to the level whose bound the value isn't below, row by row.
func TestToggleByHand(t *testing.T) {
	// By these hashes each name goes 2, 1, 3, and 4 deep, of 4 levels.
	l := []api.Hash{{B: 1 << 59}, {B: p - 1}, {B: 1<<59 - 2}, {B: 0}}
	s := with(t, newSketch(t, 4, 4), l, 9)
	checkWords(t, "9", s, 9, 9, 0, 0, 9, 0, 0, 0, 9, 9, 9, 0, 9, 9, 9, 9)
	s = with(t, s, l, 5)
	checkWords(t, "9 and 5", s, 12, 12, 0, 0, 12, 0, 0, 0, 12, 12, 12, 0, 12, 12, 12, 12)
	s = with(t, s, l, 12)
	checkWords(t, "9, 5 and 12", s, make([]uint64, 16)...)
}

// P5.1: at a level's bound, and just below.
func TestToggleAtTheBounds(t *testing.T) {
	for _, c := range []struct {
		b    uint64
		want []uint64
	}{
		{0, []uint64{7, 7, 7}},
		{576460752303423486, []uint64{7, 7, 7}},
		{576460752303423487, []uint64{7, 7, 0}},
		{1152921504606846974, []uint64{7, 7, 0}},
		{1152921504606846975, []uint64{7, 0, 0}},
		{p - 1, []uint64{7, 0, 0}},
		{p, []uint64{7, 7, 7}},
	} {
		checkWords(t, "Toggle", with(t, newSketch(t, 1, 3), []api.Hash{{B: c.b}}, 7), c.want...)
	}
}

// P5.1: a name goes down by its value: by the name itself, and by A.
func TestToggleGoesByTheName(t *testing.T) {
	l := []api.Hash{{A: 1}, {A: 1 << 58}}
	s := newSketch(t, 2, 3)
	checkWords(t, "1", with(t, s, l, 1), 1, 1, 1, 1, 1, 1)
	checkWords(t, "3", with(t, s, l, 3), 3, 3, 3, 3, 3, 0)
	checkWords(t, "6", with(t, s, l, 6), 6, 6, 6, 6, 0, 0)
	checkWords(t, "1 and 6", with(t, s, l, 1, 6), 7, 7, 7, 7, 1, 1)
	checkWords(t, "2^59", with(t, s, l, 1<<59), 1<<59, 1<<59, 0, 1<<59, 1<<59, 1<<59)
}

// P5.1: a number that is no edge's name is toggled with all its bits.
func TestToggleOfAnyNumber(t *testing.T) {
	l := []api.Hash{{A: 0, B: 1}, {A: 1, B: 0}}
	s := newSketch(t, 2, 2)
	checkWords(t, "0", with(t, s, l, 0), 0, 0, 0, 0)
	checkWords(t, "P", with(t, s, l, p), p, p, p, p)
	checkWords(t, "2^63", with(t, s, l, 1<<63), 1<<63, 1<<63, 1<<63, 1<<63)
	checkWords(t, "P - 1", with(t, s, l, p-1), p-1, p-1, p-1, 0)
	checkWords(t, "the greatest", with(t, s, l, math.MaxUint64), math.MaxUint64, math.MaxUint64, math.MaxUint64, math.MaxUint64)
	// P and 2P leave over the same: 0.
	checkWords(t, "P and 2P", with(t, s, l, p, 2*p), p^2*p, p^2*p, p^2*p, p^2*p)
}

// P5.1: what stands in the words stays where the name doesn't go, and is changed bit by bit elsewhere.
func TestToggleOfWordsThatAreThere(t *testing.T) {
	s := Sketch{R: 2, V: 2, Words: []uint64{12, math.MaxUint64, 0, 10}}
	checkWords(t, "10", with(t, s, []api.Hash{{B: 3}, {B: p - 1}}, 10), 6, math.MaxUint64-10, 10, 10)
}

// P5.1
func TestToggleOfAllKinds(t *testing.T) {
	for _, r := range []int{1, 2, 7, 8} {
		l := rows(r)
		// Small values go far deeper than those that are spread.
		l[r-1] = api.Hash{A: 1, B: uint64(r)}
		for _, v := range []int{1, 2, 22, 60, 61} {
			s := newSketch(t, r, v)
			for i, name := range numbers() {
				checkWords(t, "one", with(t, s, l, name), toggled(l, v, []uint64{name})...)
				names := numbers()[:i]
				if i%7 == 0 {
					checkWords(t, "some", with(t, s, l, names...), toggled(l, v, names)...)
				}
			}
		}
	}
}

// P5.1: a hash's numbers that aren't below P count as what they leave over.
func TestToggleByHashesThatAreNotBelowP(t *testing.T) {
	s := newSketch(t, 2, 61)
	for _, name := range numbers() {
		l := []api.Hash{{A: 3, B: 1}, {A: 6, B: 2}}
		great := []api.Hash{{A: p + 3, B: 1 + 2*p}, {A: math.MaxUint64 - 1, B: math.MaxUint64 - 5}}
		checkWords(t, "great", with(t, s, great, name), with(t, s, l, name).Words...)
	}
}

func checkToggleFails(t *testing.T, s Sketch, l []api.Hash) {
	t.Helper()
	was := slices.Clone(s.Words)
	got, err := Toggle(s, l, edge(3, 5))
	if err != api.ErrArg || got.R != s.R || got.V != s.V || !slices.Equal(got.Words, was) || !slices.Equal(s.Words, was) {
		t.Errorf("Toggle(%v, %v): %v, %d", s, l, got, err)
	}
}

// P5.1: with an error s, as it was.
func TestToggleOfWhatIsNoSketch(t *testing.T) {
	for _, s := range wrong() {
		for many := range 10 {
			checkToggleFails(t, s, rows(many))
		}
		if 0 <= s.R && s.R <= 1024 {
			checkToggleFails(t, s, rows(s.R))
		}
	}
}

// P5.1
func TestToggleByTooFewOrTooManyHashes(t *testing.T) {
	for r := 1; r <= 8; r++ {
		s := Sketch{R: r, V: 3, Words: spread.Words(3 * r)}
		for many := range 30 {
			if many != r {
				checkToggleFails(t, s, rows(many))
			}
		}
		checkToggleFails(t, s, nil)
		if got, err := Toggle(s, rows(r), 5); err != api.OK || slices.Equal(got.Words, s.Words) {
			t.Errorf("Toggle by %d hashes: %v, %d", r, got, err)
		}
	}
}

// P5.1, R1: what is handed in stays as it was, and so do the words behind it.
func TestToggleLeavesWhatIsHandedIn(t *testing.T) {
	words, l := spread.Words(9), rows(4)
	s := Sketch{R: 2, V: 3, Words: words[:6]}
	got := with(t, s, l[:2], edge(3, 5))
	if slices.Equal(got.Words, s.Words) || !slices.Equal(words, spread.Words(9)) || !slices.Equal(l, rows(4)) {
		t.Errorf("Toggle: %v of %v by %v", got, words, l)
	}
	want := slices.Clone(got.Words)
	clear(words)
	clear(l)
	checkWords(t, "what was answered", got, want...)
}

// P5.2
func TestMergeByHand(t *testing.T) {
	a := Sketch{R: 2, V: 2, Words: []uint64{12, 0, math.MaxUint64, 7}}
	b := Sketch{R: 2, V: 2, Words: []uint64{10, 9, 1 << 63, 7}}
	checkWords(t, "Merge", merged(t, a, b), 6, 9, math.MaxUint64>>1, 0)
	checkWords(t, "Merge", merged(t, b, a), 6, 9, math.MaxUint64>>1, 0)
	checkWords(t, "with none", merged(t, a, newSketch(t, 2, 2)), a.Words...)
	checkWords(t, "with itself", merged(t, a, a), 0, 0, 0, 0)
}

// P5.2
func TestMergeOfAllSizes(t *testing.T) {
	for r := 1; r <= 8; r++ {
		for v := 1; v <= 61; v++ {
			words := spread.Words(2 * r * v)
			var want []uint64
			for i := range r * v {
				want = append(want, words[i]^words[r*v+i])
			}
			a, b := Sketch{R: r, V: v, Words: words[:r*v]}, Sketch{R: r, V: v, Words: words[r*v:]}
			checkWords(t, "Merge", merged(t, a, b), want...)
		}
	}
}

func checkMergeFails(t *testing.T, a, b Sketch) {
	t.Helper()
	if m, err := Merge(a, b); err != api.ErrArg || !isNothing(m) {
		t.Errorf("Merge(%v, %v): %v, %d", a, b, m, err)
	}
}

// P5.2
func TestMergeOfWhatIsNoSketch(t *testing.T) {
	for _, s := range wrong() {
		checkMergeFails(t, s, s)
		for _, right := range []Sketch{newSketch(t, 1, 1), newSketch(t, 2, 3), newSketch(t, 8, 61)} {
			checkMergeFails(t, s, right)
			checkMergeFails(t, right, s)
		}
	}
}

// P5.2: sizes that are unlike, be the words as many.
func TestMergeOfUnlikeSizes(t *testing.T) {
	for _, c := range [][4]int{{2, 3, 3, 2}, {1, 6, 6, 1}, {1, 8, 8, 1}, {2, 4, 4, 2}, {2, 3, 2, 4}, {2, 3, 3, 3}, {8, 61, 8, 60}, {8, 61, 7, 61}} {
		a, b := newSketch(t, c[0], c[1]), newSketch(t, c[2], c[3])
		checkMergeFails(t, a, b)
		checkMergeFails(t, b, a)
	}
}

// P5.2, R1
func TestMergeLeavesWhatIsHandedIn(t *testing.T) {
	words := spread.Words(14)
	a, b := Sketch{R: 2, V: 3, Words: words[:6]}, Sketch{R: 2, V: 3, Words: words[7:13]}
	m := merged(t, a, b)
	if !slices.Equal(words, spread.Words(14)) {
		t.Errorf("Merge: %v", words)
	}
	want := slices.Clone(m.Words)
	clear(words)
	checkWords(t, "what was answered", m, want...)
}

// P5.2: in order, as often as they come, and what is no edge's name left out.
func TestNamesByHand(t *testing.T) {
	a, b, c := edge(3, 5), edge(0, 1), edge(16777214, 16777215)
	checkNames(t, Sketch{R: 2, V: 3, Words: []uint64{a, 0, b, b, a, c}}, a, b, b, a, c)
	checkNames(t, Sketch{R: 3, V: 2, Words: []uint64{a, 0, b, b, a, c}}, a, b, b, a, c)
	checkNames(t, Sketch{R: 1, V: 4, Words: []uint64{c, c, c, c}}, c, c, c, c)
	checkNames(t, Sketch{R: 4, V: 1, Words: []uint64{b, 0, 0, a}}, b, a)
	checkNames(t, Sketch{R: 1, V: 1, Words: []uint64{b}}, b)
}

// P5.2: no name has ends that are alike or turned, nor a bit from 48 on.
func TestNamesOfWhatIsNoName(t *testing.T) {
	for _, word := range []uint64{0, edge(1, 0), edge(5, 3), edge(7, 7), edge(16777215, 16777215), edge(16777215, 16777214), 1 << 48, 1<<48 + edge(3, 5), 1<<63 + edge(3, 5), p, math.MaxUint64} {
		checkNames(t, Sketch{R: 1, V: 1, Words: []uint64{word}})
		checkNames(t, Sketch{R: 1, V: 3, Words: []uint64{edge(3, 5), word, edge(0, 1)}}, edge(3, 5), edge(0, 1))
	}
}

// P5.2
func TestNamesOfAllWords(t *testing.T) {
	words := make([]uint64, 488)
	for i := range words {
		words[i] = edge(uint64(i), 1000-uint64(i))
	}
	checkNames(t, Sketch{R: 8, V: 61, Words: words}, words...)
}

// P5.2
func TestNamesOfWhatIsNoSketch(t *testing.T) {
	for _, s := range wrong() {
		checkNames(t, s)
	}
}

// P5.2, R1
func TestNamesLeaveWhatIsHandedIn(t *testing.T) {
	words := edges()[:6]
	l := Names(Sketch{R: 2, V: 3, Words: words})
	if len(l) != 6 {
		t.Fatalf("Names: %v", l)
	}
	clear(l)
	if !slices.Equal(words, edges()[:6]) {
		t.Errorf("Names: %v", words)
	}
}

// P5.3: whatever else is there.
func TestTwiceToggledIsNotThere(t *testing.T) {
	l := rows(3)
	s := with(t, newSketch(t, 3, 22), l, edges()[:4]...)
	for _, name := range numbers() {
		checkWords(t, "twice", with(t, s, l, name, name), s.Words...)
		checkWords(t, "twice, with one between", with(t, s, l, name, edge(9, 10), name), with(t, s, l, edge(9, 10)).Words...)
		if name != 0 {
			once := with(t, s, l, name)
			if slices.Equal(once.Words, s.Words) {
				t.Errorf("%d, toggled once, isn't there", name)
			}
			checkWords(t, "three times", with(t, once, l, name, name), once.Words...)
		}
	}
}

// P5.3
func TestOrderDoesNotMatter(t *testing.T) {
	l, names := rows(3), numbers()
	s := newSketch(t, 3, 22)
	want := with(t, s, l, names...).Words
	for at := range names {
		turned := slices.Concat(names[at:], names[:at])
		checkWords(t, "turned", with(t, s, l, turned...), want...)
		slices.Reverse(turned)
		checkWords(t, "turned round", with(t, s, l, turned...), want...)
	}
}

// P5.3
func TestPartsDoNotMatter(t *testing.T) {
	l, names := rows(3), numbers()
	s := newSketch(t, 3, 22)
	whole := with(t, s, l, names...)
	for at := range names {
		a, b := with(t, s, l, names[:at]...), with(t, s, l, names[at:]...)
		checkWords(t, "two parts", merged(t, a, b), whole.Words...)
		checkWords(t, "two parts, turned", merged(t, b, a), whole.Words...)
		checkWords(t, "what is left of the whole", merged(t, whole, a), b.Words...)
		half := at / 2
		a, c := with(t, s, l, names[:half]...), with(t, s, l, names[half:at]...)
		checkWords(t, "three parts", merged(t, a, merged(t, c, b)), whole.Words...)
		checkWords(t, "three parts, otherwise", merged(t, merged(t, a, c), b), whole.Words...)
	}
}

// P5.3: a name in both parts is in neither, when they are merged.
func TestMergedPartsHideWhatIsInBoth(t *testing.T) {
	l := rows(2)
	s := newSketch(t, 2, 22)
	a, b := with(t, s, l, edge(1, 2), edge(3, 4)), with(t, s, l, edge(3, 4), edge(5, 6))
	checkWords(t, "Merge", merged(t, a, b), with(t, s, l, edge(1, 2), edge(5, 6)).Words...)
}

// P5.3: the chapter's example.
func TestNamesOfOneThatGoesThreeDeep(t *testing.T) {
	s := with(t, newSketch(t, 1, 8), []api.Hash{{B: 1 << 58}}, edge(3, 5))
	checkWords(t, "Toggle", s, edge(3, 5), edge(3, 5), edge(3, 5), 0, 0, 0, 0, 0)
	checkNames(t, s, edge(3, 5), edge(3, 5), edge(3, 5))
}

// P5.3: as often as it goes deep, in all rows; of what is no edge's name nothing.
func TestNamesOfOneNameAlone(t *testing.T) {
	for _, r := range []int{1, 3, 8} {
		l := rows(r)
		for _, v := range []int{1, 22, 61} {
			s := newSketch(t, r, v)
			for _, name := range edges() {
				count := 0
				for _, h := range l {
					count += deep(h, name, v)
				}
				checkNames(t, with(t, s, l, name), slices.Repeat([]uint64{name}, count)...)
				checkNames(t, with(t, s, l, edge(8, 9), name, edge(8, 9)), slices.Repeat([]uint64{name}, count)...)
			}
			for _, name := range []uint64{0, edge(5, 3), edge(7, 7), 1 << 48, p, math.MaxUint64} {
				checkNames(t, with(t, s, l, name))
			}
		}
	}
}

// P5.3: the first level of each row has all names: there two hide one another; deeper down one may stand alone.
func TestNamesOfTwo(t *testing.T) {
	// By the first hash 0-1 has the value 2^58, and goes 3 deep, and 1-2 has 2^59 and 2^21, and goes 2 deep; by the second one both go 4 deep.
	l := []api.Hash{{A: 1 << 58}, {}}
	s := with(t, newSketch(t, 2, 4), l, edge(0, 1), edge(1, 2))
	// What two leave may look like the name of a third one.
	both := edge(1, 3)
	checkWords(t, "two", s, both, both, edge(0, 1), 0, both, both, both, both)
	checkNames(t, s, both, both, edge(0, 1), both, both, both, both)
}
