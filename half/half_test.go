package half_test

import (
	"math"
	"math/bits"
	"strconv"
	"strings"
	"testing"

	"clerestory/api"
	"clerestory/dct"
	"clerestory/half"
	"clerestory/quant"
)

// far is how far from 0 the numbers that are merged may be.
const far = 1 << 20

// unit is the number by which sums are divided.
const unit = 1 << 25

// dice is a source of numbers that are the same in every run.
type dice uint64

// below is the next number, less than n.
func (d *dice) below(n int) int {
	*d = *d*6364136223846793005 + 1442695040888963407
	return int(uint64(*d)>>33) % n
}

// random is a block of numbers of least to most.
func random(least, most int, d *dice) (b api.Block) {
	for i := range b {
		b[i] = least + d.below(most-least+1)
	}
	return b
}

// filled is the block of a number alone.
func filled(n int) (b api.Block) {
	for i := range b {
		b[i] = n
	}
	return b
}

// with is a block with another number at a place.
func with(b api.Block, at, n int) api.Block {
	b[at] = n
	return b
}

// blocks is four blocks: the upper left, the upper right, the lower left and
// the lower right one.
type blocks = [4]api.Block

// fours is four blocks of numbers of least to most.
func fours(least, most int, d *dice) (four blocks) {
	for j := range four {
		four[j] = random(least, most, d)
	}
	return four
}

// put is four blocks, one of them with another number at a place.
func put(four blocks, block, at, n int) blocks {
	four[block][at] = n
	return four
}

// same is four times the same block.
func same(b api.Block) blocks { return blocks{b, b, b, b} }

// choose is four blocks of two numbers, the second one where tell has it.
func choose(one, other int, tell func(block, row, column int) bool) (four blocks) {
	for j := range four {
		for i := range four[j] {
			if four[j][i] = one; tell(j, i/8, i%8) {
				four[j][i] = other
			}
		}
	}
	return four
}

// negated is four blocks of the same numbers below 0 instead of above, and the
// other way round.
func negated(four blocks) blocks {
	for j := range four {
		for i := range four[j] {
			four[j][i] = -four[j][i]
		}
	}
	return four
}

// matrices is the half matrices, as the document has them.
const matrices = `2896 0 0 0  2624 1204 -216 66  0 2896 0 0  -922 2291 1487 -283
	0 0 2896 0  616 -1021 2225 1420  0 0 0 2896  -522 805 -1087 2507
	2896 0 0 0  -2624 1204 216 66  0 -2896 0 0  922 2291 -1487 -283
	0 0 2896 0  -616 -1021 -2225 1420  0 0 0 -2896  522 805 1087 2507`

// factors is a(h, u, i), taken from matrices.
var factors = func() (a [2][8][4]int) {
	for i, word := range strings.Fields(matrices) {
		n, e := strconv.Atoi(word)
		if e != nil {
			panic(e)
		}
		a[i/32][i/4%8][i%4] = n
	}
	return a
}()

// weights is, for each place of the result, the factors that the document gives
// for the numbers of the four: 0 for those beyond the fourth row or column.
var weights = func() (w [64]blocks) {
	for at := range w {
		u, v := at/8, at%8
		for p := range 2 {
			for q := range 2 {
				for i := range 4 {
					for k := range 4 {
						w[at][2*p+q][8*i+k] = factors[p][u][i] * factors[q][v][k]
					}
				}
			}
		}
	}
	return w
}()

// weighed is the sum of the products of the weights of a place and the numbers
// of four blocks.
func weighed(at int, four blocks) (sum int) {
	for j, b := range four {
		for i, n := range b {
			sum += weights[at][j][i] * n
		}
	}
	return sum
}

// rounded is a sum divided by unit and rounded: of the two integers beside it
// the nearer one, and of two as near the one further from 0.
func rounded(sum int) int {
	down := sum >> 25 // rounded down, below 0 too
	rest := sum - down*unit
	if rest > unit/2 || rest == unit/2 && sum > 0 {
		return down + 1
	}
	return down
}

// wanted is the result of Merge, by the sums of all terms.
func wanted(four blocks) (b api.Block) {
	for at := range b {
		b[at] = rounded(weighed(at, four))
	}
	return b
}

// merged is what Merge returns for blocks that it takes.
func merged(t *testing.T, four blocks) api.Block {
	t.Helper()
	given := four
	got, e := half.Merge(four)
	if e != api.OK {
		t.Fatal("Merge:", e, four)
	}
	if four != given {
		t.Error("Merge changed", given)
	}
	return got
}

// checkMerge holds Merge against the document's sums.
func checkMerge(t *testing.T, four blocks) {
	t.Helper()
	if got, want := merged(t, four), wanted(four); got != want {
		t.Error("Merge:", four, "is", got, "instead of", want)
	}
}

// refused tells whether Merge returns ErrRange and nothing else.
func refused(four blocks) bool {
	got, e := half.Merge(four)
	return e == api.ErrRange && got == (api.Block{})
}

// told is what Told returns for blocks that it takes.
func told(t *testing.T, four blocks, steps api.Block) api.Block {
	t.Helper()
	given, givenSteps := four, steps
	got, e := half.Told(four, steps)
	if e != api.OK {
		t.Fatal("Told:", e, four, steps)
	}
	if four != given || steps != givenSteps {
		t.Error("Told changed", given, givenSteps)
	}
	return got
}

// toldRefused tells whether Told returns an error and nothing else.
func toldRefused(four blocks, steps api.Block, want api.Errno) bool {
	got, e := half.Told(four, steps)
	return e == want && got == (api.Block{})
}

// qualitySteps is the steps of a quality.
func qualitySteps(t *testing.T, colour bool, quality int) api.Block {
	t.Helper()
	s, e := quant.Steps(colour, quality)
	if e != api.OK {
		t.Fatal("Steps:", colour, quality, e)
	}
	return s
}

// TestExample1: four blocks of the same first number.
func TestExample1(t *testing.T) {
	if got := merged(t, same(api.Block{800})); got != (api.Block{800}) {
		t.Error("Merge:", got)
	}
}

// TestP10_1Part: each number of the half matrices.
func TestP10_1Part(t *testing.T) {
	for h := range 2 {
		for u := range 8 {
			for i := range 4 {
				if got := half.Part(h, u, i); got != factors[h][u][i] {
					t.Error("Part:", h, u, i, got)
				}
			}
		}
	}
}

// TestP10_1PartCosine: the half matrices are what four samples of each wave of
// eight have of the waves of four.
func TestP10_1PartCosine(t *testing.T) {
	wave := func(size, u, x int) float64 {
		if u == 0 {
			return math.Sqrt(1 / float64(size))
		}
		return math.Sqrt(2/float64(size)) * math.Cos(float64((2*x+1)*u)*math.Pi/float64(2*size))
	}
	for h := range 2 {
		for u := range 8 {
			for i := range 4 {
				sum := 0.0
				for x := range 4 {
					sum += 4096 * wave(8, u, 4*h+x) * wave(4, i, x)
				}
				if got := half.Part(h, u, i); math.Abs(sum-float64(got)) > 0.5 {
					t.Error("Part:", h, u, i, got, sum)
				}
			}
		}
	}
}

// TestP10_1PartNone: halves, rows and indexes that are none.
func TestP10_1PartNone(t *testing.T) {
	none := func(h, u, i int) {
		t.Helper()
		if got := half.Part(h, u, i); got != 0 {
			t.Error("Part:", h, u, i, got)
		}
	}
	beyond := []int{
		-1, -2, -3, -4, -7, -8, -9, 8, 9, 15, 16, 31, 32, 63, 64, 255, 256, 1 << 32, 1<<32 + 1, -1<<32 + 1,
		1 << 61, 1<<61 + 1, 1 << 62, math.MaxInt, math.MaxInt - 1, math.MinInt, math.MinInt + 1,
	}
	hs := append([]int{2, 3, 4, 5, 6, 7}, beyond...)
	us := beyond
	is := append([]int{4, 5, 6, 7}, beyond...)
	for u := range 8 {
		for i := range 4 {
			for _, h := range hs {
				none(h, u, i)
			}
		}
	}
	for h := range 2 {
		for i := range 4 {
			for _, u := range us {
				none(h, u, i)
			}
		}
		for u := range 8 {
			for _, i := range is {
				none(h, u, i)
			}
		}
	}
	for _, h := range hs {
		for _, u := range us {
			for _, i := range is {
				none(h, u, i)
			}
		}
	}
}

// TestP10_1First: a first number alone, in each of the four; what it gives is
// worked out by hand.
func TestP10_1First(t *testing.T) {
	want := [][8]int{ // in the upper left one
		{250, 226, 0, -80, 0, 53, 0, -45},
		{226, 205, 0, -72, 0, 48, 0, -41},
		{},
		{-80, -72, 0, 25, 0, -17, 0, 14},
		{},
		{53, 48, 0, -17, 0, 11, 0, -10},
		{},
		{-45, -41, 0, 14, 0, -10, 0, 8},
	}
	for j := range 4 {
		got := merged(t, put(blocks{}, j, 0, 1000))
		for at, n := range got {
			row, column := at/8, at%8
			sign := 1
			if j >= 2 && row%2 == 1 {
				sign = -sign
			}
			if j%2 == 1 && column%2 == 1 {
				sign = -sign
			}
			if n != sign*want[row][column] {
				t.Error("Merge: block", j, "row", row, "column", column, n)
			}
		}
	}
}

// TestP10_1Row: a number in the second row of the lower left block, and one in
// the second column of the upper right one; some of what they give is worked
// out by hand.
func TestP10_1Row(t *testing.T) {
	down := merged(t, put(blocks{}, 2, 8, 1000))
	across := merged(t, put(blocks{}, 1, 1, 1000))
	for at, want := range map[int]int{
		0: 0, 1: 0, 8: 104, 9: 94, 10: 0, 11: -33, 16: -250, 17: -226, 24: 198, 25: 179, 32: 0, 40: -88, 48: 0, 56: 69,
	} {
		if down[at] != want {
			t.Error("Merge: down:", at, down[at], "instead of", want)
		}
		if turned := at%8*8 + at/8; across[turned] != want {
			t.Error("Merge: across:", turned, across[turned], "instead of", want)
		}
	}
}

// TestP10_1Picture: an image's four blocks become the image of half the size.
func TestP10_1Picture(t *testing.T) {
	light := func(y, x int) int { return (300*x+500*y+20*x*y-6*x*x)/100 - 100 } // smooth, and not the same when turned
	var four blocks
	for j := range four {
		var b api.Block
		for i := range b {
			b[i] = light(8*(j/2)+i/8, 8*(j%2)+i%8)
		}
		waves, e := dct.Forward(b)
		if e != api.OK {
			t.Fatal(e)
		}
		four[j] = waves
	}
	small, e := dct.Inverse(merged(t, four))
	if e != api.OK {
		t.Fatal(e)
	}
	for i, n := range small {
		y, x := 2*(i/8), 2*(i%8)
		sum := light(y, x) + light(y, x+1) + light(y+1, x) + light(y+1, x+1)
		if off := 4*n - sum; off < -4*3 || off > 4*3 {
			t.Error("at", i, n, "instead of some", sum/4)
		}
	}
}

// TestP10_1Single: a number alone, at each place of each block, small, at the
// bounds, and between.
func TestP10_1Single(t *testing.T) {
	roll := dice(101)
	for j := range 4 {
		for i := range 64 {
			for _, n := range []int{0, 1, -1, 2, -3, 4, -5, 100, -100, 1000, -1000, far - 1, 1 - far, far, -far} {
				checkMerge(t, put(blocks{}, j, i, n))
			}
			for range 5 {
				checkMerge(t, put(blocks{}, j, i, roll.below(2*far+1)-far))
			}
		}
	}
}

// patterns is four blocks each of two numbers: as the signs of the weights of
// each place have them, in stripes, squares and halves, and by blocks.
func patterns(one, other int) (out []blocks) {
	tells := []func(block, row, column int) bool{
		func(block, row, column int) bool { return row%2 == 0 },
		func(block, row, column int) bool { return column%2 == 0 },
		func(block, row, column int) bool { return (row+column)%2 == 0 },
		func(block, row, column int) bool { return row < 4 },
		func(block, row, column int) bool { return column < 4 },
		func(block, row, column int) bool { return row < 4 && column < 4 },
		func(block, row, column int) bool { return row < column },
		func(block, row, column int) bool { return row == column },
		func(block, row, column int) bool { return (block+row)%2 == 0 },
	}
	for set := range 16 {
		tells = append(tells, func(block, row, column int) bool { return set>>block&1 == 1 })
	}
	for at := range weights {
		tells = append(tells, func(block, row, column int) bool { return weights[at][block][8*row+column] > 0 })
	}
	for _, tell := range tells {
		out = append(out, choose(one, other, tell))
	}
	return out
}

// TestP10_1Bounds: the least and the greatest numbers, in patterns and at
// random.
func TestP10_1Bounds(t *testing.T) {
	roll := dice(102)
	for _, pair := range [][2]int{{-far, far}, {far, -far}, {0, -far}, {far, 0}, {1 - far, far - 1}} {
		for _, four := range patterns(pair[0], pair[1]) {
			checkMerge(t, four)
		}
		for range 300 {
			checkMerge(t, choose(pair[0], pair[1], func(_, _, _ int) bool { return roll.below(2) == 1 }))
		}
	}
}

// TestP10_1Random: many blocks of numbers of all sizes.
func TestP10_1Random(t *testing.T) {
	roll := dice(103)
	for round := range 5000 {
		most := far >> (round % 21)
		checkMerge(t, fours(-most, most, &roll))
	}
	for range 500 {
		var four blocks
		for j := range four {
			most := far >> roll.below(21)
			four[j] = random(-most, most, &roll)
		}
		checkMerge(t, four)
	}
}

// halved is four blocks of numbers of -most to most whose sum at a place is as
// many smallest steps beyond a half as is said. What is missing at random is
// made up by the number whose weight has the fewest factors 2, by the reciprocal
// of its odd part among the integers modulo a power of two.
func halved(place, most, beyond int, roll *dice) blocks {
	block, at := 0, 0
	twos := func(j, i int) int { return bits.TrailingZeros64(uint64(weights[place][j][i])) }
	for j := range 4 {
		for i := range 64 {
			if twos(j, i) < twos(block, at) {
				block, at = j, i
			}
		}
	}
	cut := twos(block, at)
	odd, modulus, reciprocal := weights[place][block][at]>>cut, unit>>cut, 1
	for range 6 {
		reciprocal *= 2 - odd*reciprocal
	}
	for {
		four := put(fours(-most, most, roll), block, at, 0)
		missing := (unit/2-weighed(place, four))>>cut + beyond
		n := missing * reciprocal & (modulus - 1)
		if n >= modulus/2 {
			n -= modulus
		}
		if n >= -most && n <= most {
			return put(four, block, at, n)
		}
	}
}

// TestP10_1Halves: sums that are halves, above 0 and below, and those just
// beside halves, at each place.
func TestP10_1Halves(t *testing.T) {
	roll := dice(104)
	for place := range 64 {
		for beyond := -1; beyond <= 1; beyond++ {
			four := halved(place, far, beyond, &roll)
			sum := weighed(place, four)
			if beyond == 0 && sum&(unit-1) != unit/2 {
				t.Fatal("no half:", place, sum)
			}
			checkMerge(t, four)
			checkMerge(t, negated(four))
			up, down := merged(t, four)[place], merged(t, negated(four))[place]
			if up != -down || beyond == 0 && 2*max(up, down)*unit != 2*max(sum, -sum)+unit {
				t.Error("Merge:", place, sum, up, down)
			}
		}
	}
}

// wrong is numbers that are too far from 0.
var wrong = []int{
	far + 1, -far - 1, far + 2, -far - 2, 2 * far, -2 * far, 1 << 31, -1 << 31, 1 << 32, -1 << 32, 1<<32 + 5, -1<<32 + 5,
	1 << 62, -1 << 62, 1<<62 + 1, math.MaxInt, math.MaxInt - 1, math.MinInt, math.MinInt + 1,
}

// TestP10_1Range: numbers at the bounds, one beyond them, and far beyond, at
// every place of each block, with others that may be and with others that may
// not.
func TestP10_1Range(t *testing.T) {
	roll := dice(105)
	for j := range 4 {
		for i := range 64 {
			for _, four := range []blocks{{}, fours(-far, far, &roll), same(filled(far)), same(filled(-far))} {
				for _, n := range wrong {
					if !refused(put(four, j, i, n)) {
						t.Error("Merge takes", n, "at", i, "of", j)
					}
					if k := roll.below(256); !refused(put(put(four, k/64, k%64, -n), j, i, n)) {
						t.Error("Merge takes", n, "at", i, "of", j, "with another at", k)
					}
				}
				for _, n := range []int{far, -far, far - 1, 1 - far, 0} {
					checkMerge(t, put(four, j, i, n))
				}
			}
		}
	}
	for _, n := range wrong {
		if !refused(same(filled(n))) {
			t.Error("Merge takes all", n)
		}
	}
}

// TestP10_2ByHand: first numbers alone, worked out by hand.
func TestP10_2ByHand(t *testing.T) {
	// Merged, in the first row 250 -45 0 16 0 -11 0 9, in the first column 250
	// -91 0 32 0 -21 0 18, and 0 elsewhere.
	want := api.Block{0: 25, 1: -5, 3: 2, 5: -1, 7: 1, 8: -9, 24: 3, 40: -2, 56: 2}
	if got := told(t, blocks{{10}, {20}, {30}, {40}}, filled(10)); got != want {
		t.Error("Told:", got, "instead of", want)
	}
	// The sum is 44.99, which is merged as 45 and so told as 5, not as 4.
	for _, n := range []int{18, -18} {
		if got := told(t, blocks{{n}}, filled(10))[0]; got != n*5/18 {
			t.Error("Told:", n, got)
		}
	}
	// Told by steps that are smaller than those of the first numbers, the others
	// are held at 1023.
	want = api.Block{1: 1023, 3: -1023, 5: 1023, 7: -1023}
	if got := told(t, blocks{{1023}, {-1023}, {1023}, {-1023}}, with(filled(1), 0, 255)); got != want {
		t.Error("Told:", got, "instead of", want)
	}
}

// TestP10_2OneByOne: many blocks by many steps, compared with Up, Merge and
// Down one after another, and with what the document says of these.
func TestP10_2OneByOne(t *testing.T) {
	roll := dice(106)
	check := func(four blocks, steps api.Block) {
		t.Helper()
		got := told(t, four, steps)
		var near blocks
		for j, b := range four {
			up, e := quant.Up(b, steps)
			if e != api.OK {
				t.Fatal("Up:", e)
			}
			near[j] = up
		}
		want, e := quant.Down(merged(t, near), steps)
		if e != api.OK || got != want {
			t.Error("Told:", e, four, "by", steps, "is", got, "instead of", want)
		}
		for at, sum := range wanted(near) {
			quotient := (2*max(sum, -sum) + steps[at]) / (2 * steps[at])
			if sum < 0 {
				quotient = -quotient
			}
			if n := min(max(quotient, -1023), 1023); got[at] != n {
				t.Error("Told:", four, "by", steps, "at", at, got[at], "instead of", n)
			}
		}
	}
	for round := range 2000 {
		most := 1023 >> (round % 11)
		check(fours(-most, most, &roll), random(1, 255, &roll))
		check(choose(-most, most, func(_, _, _ int) bool { return roll.below(2) == 1 }), random(1, 1+roll.below(255), &roll))
	}
	for quality := 1; quality <= 100; quality++ {
		for _, colour := range []bool{false, true} {
			check(fours(-1023, 1023, &roll), qualitySteps(t, colour, quality))
			check(fours(-8, 8, &roll), qualitySteps(t, colour, quality))
		}
	}
	for _, step := range []int{1, 2, 3, 254, 255} {
		for _, four := range patterns(-1023, 1023) {
			check(four, filled(step))
		}
	}
}

// badSteps is steps that may not be.
var badSteps = []int{0, -1, 256, -255, 257, 1 << 20, 1<<32 + 1, -1 << 32, math.MaxInt, math.MinInt}

// badNumbers is numbers that Up refuses.
var badNumbers = []int{1024, -1024, 1025, -1025, far, -far, far + 1, -far - 1, 1 << 32, 1<<32 + 1, -1 << 62, math.MaxInt, math.MinInt, math.MinInt + 1}

// TestP10_2Steps: steps that may not be, at every place, and steps at their
// bounds.
func TestP10_2Steps(t *testing.T) {
	roll := dice(107)
	for i := range 64 {
		right := random(1, 255, &roll)
		for _, four := range []blocks{{}, fours(-1023, 1023, &roll)} {
			for _, n := range badSteps {
				if !toldRefused(four, with(right, i, n), api.ErrArg) {
					t.Error("Told takes the step", n, "at", i)
				}
			}
			for _, n := range []int{1, 2, 254, 255} {
				told(t, four, with(right, i, n))
			}
		}
	}
	if !toldRefused(blocks{}, api.Block{}, api.ErrArg) {
		t.Error("Told takes steps of zeros")
	}
}

// TestP10_2Range: numbers that Up refuses, at every place of each block, and
// numbers at the bounds.
func TestP10_2Range(t *testing.T) {
	roll := dice(108)
	steps := []api.Block{filled(1), filled(255), random(1, 255, &roll)}
	for j := range 4 {
		for i := range 64 {
			for _, s := range steps {
				for _, four := range []blocks{{}, fours(-1023, 1023, &roll)} {
					for _, n := range badNumbers {
						if !toldRefused(put(four, j, i, n), s, api.ErrRange) {
							t.Error("Told takes", n, "at", i, "of", j)
						}
					}
					for _, n := range []int{1023, -1023} {
						told(t, put(four, j, i, n), s)
					}
				}
			}
		}
	}
}

// TestP10_2First: steps that may not be are told ahead of numbers that may not
// be, wherever both are.
func TestP10_2First(t *testing.T) {
	roll := dice(109)
	for j := range 4 {
		for _, i := range []int{0, 31, 63} {
			for _, k := range []int{0, 32, 63} {
				for _, n := range badNumbers {
					for _, step := range badSteps {
						four := put(fours(-1023, 1023, &roll), j, i, n)
						if !toldRefused(four, with(filled(16), k, step), api.ErrArg) {
							t.Error("Told:", n, "at", i, "of", j, "and the step", step, "at", k)
						}
					}
				}
			}
		}
	}
}

// TestP10_3Zeros: four blocks of zeros, by steps too.
func TestP10_3Zeros(t *testing.T) {
	if got := merged(t, blocks{}); got != (api.Block{}) {
		t.Error("Merge:", got)
	}
	for _, steps := range []api.Block{filled(1), filled(255), qualitySteps(t, false, 50), qualitySteps(t, true, 75)} {
		if got := told(t, blocks{}, steps); got != (api.Block{}) {
			t.Error("Told:", got)
		}
	}
}

// TestP10_3Beyond: numbers beyond the fourth row or the fourth column change
// nothing, one by one or all of them.
func TestP10_3Beyond(t *testing.T) {
	roll := dice(110)
	beyond := func(i int) bool { return i/8 > 3 || i%8 > 3 }
	changed := func(four blocks, most int) blocks {
		for j := range four {
			for i := range four[j] {
				if beyond(i) {
					four[j][i] = roll.below(2*most+1) - most
				}
			}
		}
		return four
	}
	steps := qualitySteps(t, false, 90)
	for range 100 {
		waves, image := fours(-far, far, &roll), fours(-1023, 1023, &roll)
		if merged(t, changed(waves, far)) != merged(t, waves) {
			t.Error("Merge: numbers beyond have influence")
		}
		if told(t, changed(image, 1023), steps) != told(t, image, steps) {
			t.Error("Told: numbers beyond have influence")
		}
	}
	four := fours(-1023, 1023, &roll)
	waves, image := merged(t, four), told(t, four, steps)
	for j := range 4 {
		for i := range 64 {
			for _, n := range []int{far, -far, 0} {
				if beyond(i) && merged(t, put(four, j, i, n)) != waves {
					t.Error("Merge:", n, "at", i, "of", j, "has influence")
				}
			}
			for _, n := range []int{1023, -1023, 0} {
				if beyond(i) && told(t, put(four, j, i, n), steps) != image {
					t.Error("Told:", n, "at", i, "of", j, "has influence")
				}
			}
		}
	}
}

// TestP10_4: every number as the only one, the first of each of the four, by
// steps of all qualities and by every first step.
func TestP10_4(t *testing.T) {
	var all []api.Block
	for _, quality := range []int{1, 2, 5, 10, 25, 49, 50, 51, 75, 90, 95, 99, 100} {
		all = append(all, qualitySteps(t, false, quality), qualitySteps(t, true, quality))
	}
	for step := 1; step <= 255; step++ {
		all = append(all, with(filled(16), 0, step))
	}
	for _, steps := range all {
		for n := -1023; n <= 1023; n++ {
			if got := told(t, same(api.Block{n}), steps); got[0] != n {
				t.Error("Told:", n, "by", steps[0], "is", got[0])
			}
		}
	}
}

// TestP10New: who changes a result changes his own.
func TestP10New(t *testing.T) {
	roll := dice(112)
	four, steps := fours(-1023, 1023, &roll), random(1, 255, &roll)
	one, other := merged(t, four), told(t, four, steps)
	oneWant, otherWant := one, other
	for i := range one {
		one[i], other[i] = 7, 7
	}
	if merged(t, four) != oneWant || told(t, four, steps) != otherWant {
		t.Error("a result has changed")
	}
}
