package dct_test

import (
	"math"
	"math/bits"
	"strconv"
	"strings"
	"testing"

	"clerestory/api"
	"clerestory/dct"
)

// dice is a source of numbers that are the same in every run.
type dice uint64

// below is the next number, less than n.
func (d *dice) below(n int) int {
	*d = *d*6364136223846793005 + 1442695040888963407
	return int(uint64(*d)>>33) % n
}

// random is a block of numbers of least to most.
func random(least, most int, d *dice) (b api.Block) {
	for i := range b {
		b[i] = least + d.below(most-least+1)
	}
	return b
}

// either is a block of two numbers in any pattern.
func either(one, other int, d *dice) (b api.Block) {
	for i := range b {
		if b[i] = one; d.below(2) == 1 {
			b[i] = other
		}
	}
	return b
}

// filled is the block of a number alone.
func filled(n int) (b api.Block) {
	for i := range b {
		b[i] = n
	}
	return b
}

// with is a block with another number at a place.
func with(b api.Block, at, n int) api.Block {
	b[at] = n
	return b
}

// negated is a block of the same numbers below 0 instead of above, and the
// other way round.
func negated(b api.Block) api.Block {
	for i := range b {
		b[i] = -b[i]
	}
	return b
}

// rows is the basis, as the document has it.
const rows = `2896 2896 2896 2896 2896 2896 2896 2896
	4017 3406 2276 799 -799 -2276 -3406 -4017
	3784 1567 -1567 -3784 -3784 -1567 1567 3784
	3406 -799 -4017 -2276 2276 4017 799 -3406
	2896 -2896 -2896 2896 2896 -2896 -2896 2896
	2276 -4017 799 3406 -3406 -799 4017 -2276
	1567 -3784 3784 -1567 -1567 3784 -3784 1567
	799 -2276 3406 -4017 4017 -3406 2276 -799`

// basis is c(u, x), taken from rows.
var basis = func() (c [8][8]int) {
	for i, word := range strings.Fields(rows) {
		n, e := strconv.Atoi(word)
		if e != nil {
			panic(e)
		}
		c[i/8][i%8] = n
	}
	return c
}()

// unit is the number by which sums are divided.
const unit = 1 << 26

// rounded is a sum divided by unit and rounded: of the two integers beside it
// the nearer one, and of two as near the one further from 0.
func rounded(sum int) int {
	down := sum >> 26 // rounded down, below 0 too
	rest := sum - down*unit
	if rest > unit/2 || rest == unit/2 && sum > 0 {
		return down + 1
	}
	return down
}

// weighed is the sum of the products of weights and the numbers of a block.
func weighed(weights [64]int, b api.Block) (sum int) {
	for i, n := range b {
		sum += weights[i] * n
	}
	return sum
}

// turn is Forward or Inverse, with the numbers that it takes, and with the
// factors that the document gives for the number at a row and a column.
type turn struct {
	name        string
	call        func(b api.Block) (api.Block, api.Errno)
	least, most int
	weights     func(row, column int) [64]int
}

var forward = turn{"Forward", dct.Forward, -2048, 2047, func(u, v int) (w [64]int) {
	for y := range 8 {
		for x := range 8 {
			w[8*y+x] = basis[u][y] * basis[v][x]
		}
	}
	return w
}}

var inverse = turn{"Inverse", dct.Inverse, -1 << 20, 1 << 20, func(y, x int) (w [64]int) {
	for u := range 8 {
		for v := range 8 {
			w[8*u+v] = basis[u][y] * basis[v][x]
		}
	}
	return w
}}

var turns = []turn{forward, inverse}

// checker holds a call against the document's sums of all 64 terms.
func (c turn) checker(t *testing.T) func(b api.Block) {
	var weights [64][64]int
	for i := range weights {
		weights[i] = c.weights(i/8, i%8)
	}
	return func(b api.Block) {
		t.Helper()
		given := b
		got, e := c.call(b)
		if e != api.OK {
			t.Error(c.name, e, b)
			return
		}
		for i, n := range got {
			if want := rounded(weighed(weights[i], given)); n != want {
				t.Error(c.name, given, "at", i, n, "instead of", want)
			}
		}
		if b != given {
			t.Error(c.name, "changed", given)
		}
	}
}

// result is what a call returns for a block that it takes.
func (c turn) result(t *testing.T, b api.Block) api.Block {
	t.Helper()
	got, e := c.call(b)
	if e != api.OK {
		t.Fatal(c.name, e, b)
	}
	return got
}

// refuses tells whether a call returns ErrRange and nothing else.
func (c turn) refuses(b api.Block) bool {
	got, e := c.call(b)
	return e == api.ErrRange && got == (api.Block{})
}

// TestExample1: a block of 100s, and its way back.
func TestExample1(t *testing.T) {
	if got := forward.result(t, filled(100)); got != (api.Block{800}) {
		t.Error("Forward:", got)
	}
	if got := inverse.result(t, api.Block{800}); got != filled(100) {
		t.Error("Inverse:", got)
	}
}

// TestP9_1Wave: each number of the basis.
func TestP9_1Wave(t *testing.T) {
	for u := range 8 {
		for x := range 8 {
			if got := dct.Wave(u, x); got != basis[u][x] {
				t.Error("Wave:", u, x, got)
			}
		}
	}
}

// TestP9_1WaveCosine: the basis is that of the transform, but for what was cut
// off its numbers.
func TestP9_1WaveCosine(t *testing.T) {
	for u := range 8 {
		for x := range 8 {
			n := 4096 * math.Cos(float64((2*x+1)*u)*math.Pi/16)
			if u == 0 {
				n = 4096 / math.Sqrt2
			}
			if got := dct.Wave(u, x); math.Abs(n-float64(got)) > 0.5 {
				t.Error("Wave:", u, x, got, n)
			}
		}
	}
}

// TestP9_1WaveNone: rows and indexes that are none.
func TestP9_1WaveNone(t *testing.T) {
	none := []int{
		-1, 8, -2, 9, -7, -8, -9, 15, 16, 56, 63, 64, 255, 256, 1 << 32, 1<<32 + 1, -1<<32 + 1, 1 << 61, 1<<61 + 1,
		math.MaxInt, math.MaxInt - 1, math.MinInt, math.MinInt + 1,
	}
	for _, n := range none {
		for k := range 8 {
			if a, b := dct.Wave(n, k), dct.Wave(k, n); a != 0 || b != 0 {
				t.Error("Wave:", n, k, a, b)
			}
		}
		for _, k := range none {
			if got := dct.Wave(n, k); got != 0 {
				t.Error("Wave:", n, k, got)
			}
		}
	}
}

// TestP9_1Even: blocks of one number have only their first number, of which
// some are worked out by hand; -2048 gives a half.
func TestP9_1Even(t *testing.T) {
	for _, c := range [][2]int{
		{0, 0}, {1, 8}, {-1, -8}, {2, 16}, {127, 1016}, {128, 1024}, {-128, -1024}, {255, 2040}, {292, 2336},
		{293, 2343}, {-293, -2343}, {1000, 7998}, {2047, 16373}, {-2047, -16373}, {-2048, -16381},
	} {
		if got := forward.result(t, filled(c[0])); got != (api.Block{c[1]}) {
			t.Error("Forward:", c, got)
		}
	}
	check := forward.checker(t)
	for n := -2048; n <= 2047; n++ {
		if got := forward.result(t, filled(n)); got != (api.Block{got[0]}) {
			t.Error("Forward of one number:", n, got)
		}
		check(filled(n))
	}
}

// TestP9_1Row: a number in the first row, where what its row and what its
// column gives is worked out by hand.
func TestP9_1Row(t *testing.T) {
	got := forward.result(t, api.Block{1: 1000})
	want := api.Block{
		125, 147, 68, -34, -125, -173, -163, -98,
		173, 204, 94, -48, -173, -240, -227, -136,
	}
	if [16]int(got[:16]) != [16]int(want[:16]) {
		t.Error("Forward:", got)
	}
	if got = inverse.result(t, api.Block{8: 1000}); got[0] != 173 || got[7] != 173 || got[8] != 147 || got[56] != -173 {
		t.Error("Inverse:", got)
	}
}

// patterns is blocks of two numbers, as the signs of each of the waves, one by
// one, have them, and in stripes, squares and halves.
func patterns(low, high int) (out []api.Block) {
	tells := []func(row, column int) bool{
		func(row, column int) bool { return row%2 == 0 },
		func(row, column int) bool { return column%2 == 0 },
		func(row, column int) bool { return (row+column)%2 == 0 },
		func(row, column int) bool { return (row/2+column/2)%2 == 0 },
		func(row, column int) bool { return row < 4 },
		func(row, column int) bool { return column < 4 },
		func(row, column int) bool { return row < column },
		func(row, column int) bool { return row == column },
		func(row, column int) bool { return row+column == 7 },
		func(row, column int) bool { return row == 0 || row == 7 || column == 0 || column == 7 },
	}
	for _, c := range turns {
		for i := range 64 {
			weights := c.weights(i/8, i%8)
			tells = append(tells, func(row, column int) bool { return weights[8*row+column] > 0 })
		}
	}
	for _, tell := range tells {
		var b api.Block
		for i := range b {
			if b[i] = low; tell(i/8, i%8) {
				b[i] = high
			}
		}
		out = append(out, b)
	}
	return out
}

// TestP9Single: a number alone, at each place, small, at the bounds, and
// between, for both calls (P9.1, P9.2).
func TestP9Single(t *testing.T) {
	for _, c := range turns {
		check := c.checker(t)
		roll := dice(91)
		for i := range 64 {
			for _, n := range []int{0, 1, -1, 2, -2, 3, -3, 100, -100, 1000, -1000, c.most, c.least, c.most - 1, c.least + 1} {
				check(with(api.Block{}, i, n))
			}
			for range 20 {
				check(with(api.Block{}, i, c.least+roll.below(c.most-c.least+1)))
			}
		}
	}
}

// TestP9Bounds: the least and the greatest numbers, all of them, in patterns,
// and at random, for both calls (P9.1, P9.2).
func TestP9Bounds(t *testing.T) {
	for _, c := range turns {
		check := c.checker(t)
		roll := dice(92)
		for _, n := range []int{c.least, c.most, c.least + 1, c.most - 1} {
			check(filled(n))
		}
		for _, pair := range [][2]int{{c.least, c.most}, {c.most, c.least}, {0, c.least}, {c.most, 0}} {
			for _, b := range patterns(pair[0], pair[1]) {
				check(b)
			}
			for range 500 {
				check(either(pair[0], pair[1], &roll))
			}
		}
	}
}

// TestP9Random: many blocks of numbers of all sizes, for both calls (P9.1,
// P9.2).
func TestP9Random(t *testing.T) {
	for _, c := range turns {
		check := c.checker(t)
		roll := dice(93)
		for round := range 6000 {
			most := c.most >> (round % 12)
			check(random(max(c.least, -most-1), most, &roll))
		}
	}
}

// TestP9Range: numbers at the bounds, one beyond them, and far beyond, at every
// place, with others that may be and with others that may not, for both calls
// (P9.1, P9.2).
func TestP9Range(t *testing.T) {
	for _, c := range turns {
		roll := dice(94)
		wrong := []int{
			c.most + 1, c.least - 1, c.most + 2, c.least - 2, 2 * c.most, 2 * c.least, 1 << 21, -1 << 21, 1 << 31, -1 << 31,
			1 << 32, -1 << 32, 1<<32 + 5, -1<<32 + 5, 1 << 62, -1 << 62, 1<<62 + 1,
			math.MaxInt, math.MaxInt - 1, math.MinInt, math.MinInt + 1,
		}
		for i := range 64 {
			for _, n := range wrong {
				for _, b := range []api.Block{{}, random(c.least, c.most, &roll), filled(c.least), filled(c.most)} {
					if !c.refuses(with(b, i, n)) {
						t.Error(c.name, "takes", n, "at", i)
					}
				}
				if k := roll.below(64); !c.refuses(with(with(api.Block{}, k, -n), i, n)) {
					t.Error(c.name, "takes", n, "at", i, "with another at", k)
				}
			}
			for _, n := range []int{c.least, c.most, 0} {
				if _, e := c.call(with(random(c.least, c.most, &roll), i, n)); e != api.OK {
					t.Error(c.name, "refuses", n, "at", i, e)
				}
			}
		}
		for _, n := range wrong {
			if !c.refuses(filled(n)) {
				t.Error(c.name, "takes all", n)
			}
		}
	}
}

// halved is a block of numbers of -most to most whose sum by weights is as
// many smallest steps beyond a half as is said. What is missing at random is
// made up by the number whose weight has the fewest factors 2, by the reciprocal
// of its odd part among the integers modulo a power of two.
func halved(weights [64]int, most, beyond int, roll *dice) api.Block {
	at := 0
	for i, w := range weights {
		if bits.TrailingZeros64(uint64(w)) < bits.TrailingZeros64(uint64(weights[at])) {
			at = i
		}
	}
	twos := bits.TrailingZeros64(uint64(weights[at]))
	odd, modulus, reciprocal := weights[at]>>twos, unit>>twos, 1
	for range 6 {
		reciprocal *= 2 - odd*reciprocal
	}
	for {
		b := with(random(-most, most, roll), at, 0)
		missing := (unit/2-weighed(weights, b))>>twos + beyond
		n := missing * reciprocal & (modulus - 1)
		if n >= modulus/2 {
			n -= modulus
		}
		if n >= -most && n <= most {
			return with(b, at, n)
		}
	}
}

// few tells whether a sum at a place has so few values that no half is among
// those of Forward, but for that of -2048s at index 0: all its weights are as
// far from 0 as each other.
func few(i int) bool { return i/8%4 == 0 && i%4 == 0 }

// TestP9Halves: sums that are halves, above 0 and below, and those just beside
// halves, at each place, for both calls (P9.1, P9.2).
func TestP9Halves(t *testing.T) {
	for _, c := range turns {
		check := c.checker(t)
		roll := dice(95)
		for i := range 64 {
			weights := c.weights(i/8, i%8)
			for beyond := -1; beyond <= 1; beyond++ {
				if c.name == "Forward" && few(i) {
					continue
				}
				b := halved(weights, c.most, beyond, &roll)
				sum := weighed(weights, b)
				if beyond == 0 && sum&(unit-1) != unit/2 {
					t.Fatal("no half:", c.name, i, sum)
				}
				check(b)
				check(negated(b))
				up, down := c.result(t, b)[i], c.result(t, negated(b))[i]
				if up != -down || beyond == 0 && 2*max(up, down)*unit != 2*max(sum, -sum)+unit {
					t.Error(c.name, i, sum, up, down)
				}
			}
		}
	}
}

// TestP9_2First: the first number alone is the same everywhere; halves, and
// what lies beside them, by hand.
func TestP9_2First(t *testing.T) {
	for _, c := range [][2]int{
		{0, 0}, {1, 0}, {4, 0}, {5, 1}, {-5, -1}, {8, 1}, {-8, -1}, {800, 100}, {-800, -100}, {1024, 128},
		{131071, 16380}, {131072, 16381}, {131073, 16381}, {-131071, -16380}, {-131072, -16381}, {-131073, -16381},
		{393216, 49142}, {-393216, -49142}, {1 << 20, 131044}, {-1 << 20, -131044},
	} {
		if got := inverse.result(t, api.Block{c[0]}); got != filled(c[1]) {
			t.Error("Inverse:", c, got)
		}
	}
}

// TestP9_3: samples differ by at most 4 behind both calls: the least and the
// greatest ones in patterns and at random, others, and those that were moved
// one by one to differ more.
func TestP9_3(t *testing.T) {
	differs := func(b api.Block) (most int) {
		t.Helper()
		for i, n := range inverse.result(t, forward.result(t, b)) {
			most = max(most, n-b[i], b[i]-n)
		}
		if most > 4 {
			t.Error("differs by", most, b)
		}
		return most
	}
	for n := -128; n <= 127; n++ {
		differs(filled(n))
		for i := range 64 {
			differs(with(api.Block{}, i, n))
			differs(with(filled(-128), i, n))
			differs(with(filled(127), i, n))
		}
	}
	for _, pair := range [][2]int{{-128, 127}, {127, -128}, {-128, 0}, {0, 127}, {126, 127}, {-128, -127}} {
		for _, b := range patterns(pair[0], pair[1]) {
			differs(b)
		}
	}
	roll := dice(96)
	for round := range 20000 {
		differs(either(-128, 127, &roll))
		most := 127 >> (round % 7)
		differs(random(-most-1, most, &roll))
	}
	for range 20 {
		b := random(-128, 127, &roll)
		before := differs(b)
		for range 500 {
			next := with(b, roll.below(64), roll.below(256)-128)
			if now := differs(next); now >= before {
				b, before = next, now
			}
		}
	}
}

// TestP9_4: negated numbers give negated numbers, for both calls.
func TestP9_4(t *testing.T) {
	for _, c := range turns {
		roll := dice(97)
		check := func(b api.Block) {
			t.Helper()
			if got, want := c.result(t, negated(b)), negated(c.result(t, b)); got != want {
				t.Error(c.name, b, got, "instead of", want)
			}
		}
		check(api.Block{})
		for _, n := range []int{1, 2, 3, 100, c.most - 1, c.most} {
			check(filled(n))
			for i := range 64 {
				check(with(api.Block{}, i, n))
			}
			for _, b := range patterns(-n, n) {
				check(b)
			}
		}
		for round := range 3000 {
			check(random(-c.most>>(round%11), c.most>>(round%11), &roll))
			check(either(-c.most, c.most, &roll))
		}
	}
	for i := range 64 {
		b := with(api.Block{}, i, -2048)
		if forward.result(t, b); !forward.refuses(negated(b)) {
			t.Error("Forward takes 2048 at", i)
		}
	}
}

// TestP9New: who changes a result changes his own.
func TestP9New(t *testing.T) {
	roll := dice(98)
	for _, c := range turns {
		b := random(c.least, c.most, &roll)
		mine := c.result(t, b)
		want := mine
		for i := range mine {
			mine[i] = 7
		}
		if got := c.result(t, b); got != want {
			t.Error(c.name, got, "instead of", want)
		}
	}
}
