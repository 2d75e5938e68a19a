package quant_test

import (
	"math"
	"math/big"
	"strconv"
	"strings"
	"testing"

	"clerestory/api"
	"clerestory/quant"
)

// dice is a source of numbers that are the same in every run.
type dice uint64

// below is the next number, less than n.
func (d *dice) below(n int) int {
	*d = *d*6364136223846793005 + 1442695040888963407
	return int(uint64(*d)>>33) % n
}

// around is the next number of -n to n.
func (d *dice) around(n int) int { return d.below(2*n+1) - n }

// filled is the block of a number alone.
func filled(n int) (b api.Block) {
	for i := range b {
		b[i] = n
	}
	return b
}

// with is a block with another number at a place.
func with(b api.Block, at, n int) api.Block {
	b[at] = n
	return b
}

// random is a block of numbers of least to most.
func random(least, most int, d *dice) (b api.Block) {
	for i := range b {
		b[i] = least + d.below(most-least+1)
	}
	return b
}

// block is the block whose rows are written in lines.
func block(t *testing.T, text string) (b api.Block) {
	t.Helper()
	words := strings.Fields(text)
	if len(words) != len(b) {
		t.Fatal(len(words), "numbers:", text)
	}
	for i, word := range words {
		n, e := strconv.Atoi(word)
		if e != nil {
			t.Fatal(e)
		}
		b[i] = n
	}
	return b
}

// places is the first place of a block, the last one, and some between.
var places = []int{0, 1, 7, 8, 31, 32, 62, 63}

// rounded is a fraction rounded, as the document tells it: of the two integers
// beside it the nearer one, and of two as near the one further from 0.
func rounded(n, d int) int {
	fraction := new(big.Rat).SetFrac(big.NewInt(int64(n)), big.NewInt(int64(d)))
	down := new(big.Int).Div(fraction.Num(), fraction.Denom()) // Euclid's, which is rounded down
	rest := new(big.Rat).Sub(fraction, new(big.Rat).SetInt(down))
	k := int(down.Int64())
	switch rest.Cmp(big.NewRat(1, 2)) {
	case -1:
		return k
	case 1:
		return k + 1
	}
	if fraction.Sign() < 0 {
		return k
	}
	return k + 1
}

// base is the base steps of luminance and of chrominance, as the document has
// them.
const (
	baseBright = `16 11 10 16 24 40 51 61  12 12 14 19 26 58 60 55
		14 13 16 24 40 57 69 56  14 17 22 29 51 87 80 62
		18 22 37 56 68 109 103 77  24 35 55 64 81 104 113 92
		49 64 78 87 103 121 120 101  72 92 95 98 112 100 103 99`
	baseColour = `17 18 24 47 99 99 99 99  18 21 26 66 99 99 99 99
		24 26 56 99 99 99 99 99  47 66 99 99 99 99 99 99
		99 99 99 99 99 99 99 99  99 99 99 99 99 99 99 99
		99 99 99 99 99 99 99 99  99 99 99 99 99 99 99 99`
)

// byHand is the steps of some qualities, worked out by hand.
var byHand = []struct {
	colour  bool
	quality int
	steps   string
}{
	{false, 10, `80 55 50 80 120 200 255 255  60 60 70 95 130 255 255 255
		70 65 80 120 200 255 255 255  70 85 110 145 255 255 255 255
		90 110 185 255 255 255 255 255  120 175 255 255 255 255 255 255
		245 255 255 255 255 255 255 255  255 255 255 255 255 255 255 255`},
	{true, 10, `85 90 120 235 255 255 255 255  90 105 130 255 255 255 255 255
		120 130 255 255 255 255 255 255  235 255 255 255 255 255 255 255
		255 255 255 255 255 255 255 255  255 255 255 255 255 255 255 255
		255 255 255 255 255 255 255 255  255 255 255 255 255 255 255 255`},
	{false, 49, `16 11 10 16 24 41 52 62  12 12 14 19 27 59 61 56
		14 13 16 24 41 58 70 57  14 17 22 30 52 89 82 63
		18 22 38 57 69 111 105 79  24 36 56 65 83 106 115 94
		50 65 80 89 105 123 122 103  73 94 97 100 114 102 105 101`},
	{true, 49, `17 18 24 48 101 101 101 101  18 21 27 67 101 101 101 101
		24 27 57 101 101 101 101 101  48 67 101 101 101 101 101 101
		101 101 101 101 101 101 101 101  101 101 101 101 101 101 101 101
		101 101 101 101 101 101 101 101  101 101 101 101 101 101 101 101`},
	{false, 51, `16 11 10 16 24 39 50 60  12 12 14 19 25 57 59 54
		14 13 16 24 39 56 68 55  14 17 22 28 50 85 78 61
		18 22 36 55 67 107 101 75  24 34 54 63 79 102 111 90
		48 63 76 85 101 119 118 99  71 90 93 96 110 98 101 97`},
	{true, 51, `17 18 24 46 97 97 97 97  18 21 25 65 97 97 97 97
		24 25 55 97 97 97 97 97  46 65 97 97 97 97 97 97
		97 97 97 97 97 97 97 97  97 97 97 97 97 97 97 97
		97 97 97 97 97 97 97 97  97 97 97 97 97 97 97 97`},
	{false, 75, `8 6 5 8 12 20 26 31  6 6 7 10 13 29 30 28
		7 7 8 12 20 29 35 28  7 9 11 15 26 44 40 31
		9 11 19 28 34 55 52 39  12 18 28 32 41 52 57 46
		25 32 39 44 52 61 60 51  36 46 48 49 56 50 52 50`},
	{true, 75, `9 9 12 24 50 50 50 50  9 11 13 33 50 50 50 50
		12 13 28 50 50 50 50 50  24 33 50 50 50 50 50 50
		50 50 50 50 50 50 50 50  50 50 50 50 50 50 50 50
		50 50 50 50 50 50 50 50  50 50 50 50 50 50 50 50`},
	{false, 99, `1 1 1 1 1 1 1 1  1 1 1 1 1 1 1 1
		1 1 1 1 1 1 1 1  1 1 1 1 1 2 2 1
		1 1 1 1 1 2 2 2  1 1 1 1 2 2 2 2
		1 1 2 2 2 2 2 2  1 2 2 2 2 2 2 2`},
	{true, 99, `1 1 1 1 2 2 2 2  1 1 1 1 2 2 2 2
		1 1 1 2 2 2 2 2  1 1 2 2 2 2 2 2
		2 2 2 2 2 2 2 2  2 2 2 2 2 2 2 2
		2 2 2 2 2 2 2 2  2 2 2 2 2 2 2 2`},
}

// steps is the steps of a quality, which are given.
func steps(t *testing.T, colour bool, quality int) api.Block {
	t.Helper()
	s, e := quant.Steps(colour, quality)
	if e != api.OK {
		t.Fatal("Steps:", colour, quality, e)
	}
	return s
}

// TestExample1: the base steps, and a half below 0.
func TestExample1(t *testing.T) {
	if got := steps(t, false, 50); got != block(t, baseBright) {
		t.Error("luminance:", got)
	}
	if got := steps(t, true, 50); got != block(t, baseColour) {
		t.Error("chrominance:", got)
	}
	if got := quant.Round(-3, 2); got != -2 {
		t.Error("Round(-3, 2):", got)
	}
}

// TestP8_1Round: fractions by hand: integers, halves, those beside halves.
func TestP8_1Round(t *testing.T) {
	for _, c := range [][3]int{
		{0, 1, 0}, {0, 2, 0}, {0, 7, 0}, {0, 1 << 60, 0},
		{1, 1, 1}, {-1, 1, -1}, {12345, 1, 12345}, {-12345, 1, -12345},
		{1, 2, 1}, {3, 2, 2}, {5, 2, 3}, {-1, 2, -1}, {-3, 2, -2}, {-5, 2, -3},
		{2, 4, 1}, {-2, 4, -1}, {6, 4, 2}, {-6, 4, -2}, {10, 4, 3}, {-10, 4, -3},
		{1, 3, 0}, {2, 3, 1}, {4, 3, 1}, {5, 3, 2}, {-1, 3, 0}, {-2, 3, -1}, {-4, 3, -1}, {-5, 3, -2},
		{49, 100, 0}, {50, 100, 1}, {51, 100, 1}, {-49, 100, 0}, {-50, 100, -1}, {-51, 100, -1},
		{149, 100, 1}, {150, 100, 2}, {-149, 100, -1}, {-150, 100, -2},
		{50, 101, 0}, {51, 101, 1}, {-50, 101, 0}, {-51, 101, -1},
		{99, 100, 1}, {100, 100, 1}, {101, 100, 1}, {-99, 100, -1}, {-101, 100, -1},
	} {
		if got := quant.Round(c[0], c[1]); got != c[2] {
			t.Error("Round:", c, got)
		}
	}
}

// TestP8_1RoundLimits: parts at the limits, and beyond them, where the nearest
// integer would not be 0.
func TestP8_1RoundLimits(t *testing.T) {
	const far = 1 << 60
	for _, c := range [][3]int{
		{far, 1, far}, {-far, 1, -far}, {far - 1, 1, far - 1}, {1 - far, 1, 1 - far},
		{far, 2, far / 2}, {-far, 2, -far / 2}, {far - 1, 2, far / 2}, {1 - far, 2, -far / 2},
		{far, far, 1}, {-far, far, -1}, {far, far - 1, 1}, {-far, far - 1, -1},
		{far / 2, far, 1}, {-far / 2, far, -1}, {far/2 - 1, far, 0}, {1 - far/2, far, 0},
		{far / 2, far - 1, 1}, {far/2 - 1, far - 1, 0}, {far - 1, far, 1}, {1 - far, far, -1},
		{far + 1, 1, 0}, {-far - 1, 1, 0}, {far + 1, far, 0}, {-far - 1, far, 0},
		{far, far + 1, 0}, {-far, far + 1, 0}, {far + 1, far + 1, 0}, {-far - 1, far + 1, 0},
		{math.MaxInt, 1, 0}, {math.MinInt, 1, 0}, {math.MaxInt, math.MaxInt, 0}, {math.MinInt, math.MaxInt, 0},
		{far, math.MaxInt, 0}, {math.MaxInt, 2, 0}, {math.MinInt, 2, 0}, {1 << 61, 1 << 30, 0}, {-1 << 61, 1 << 30, 0},
		{7, 0, 0}, {-7, 0, 0}, {0, 0, 0}, {7, -1, 0}, {-7, -1, 0}, {0, -1, 0}, {7, -2, 0}, {-7, -7, 0},
		{far, 0, 0}, {far, -far, 0}, {-far, -far, 0}, {far, -far - 1, 0}, {-far - 1, -far - 1, 0},
		{math.MinInt, -1, 0}, {math.MinInt, 0, 0}, {math.MinInt, math.MinInt, 0}, {1, math.MinInt, 0},
	} {
		if got := quant.Round(c[0], c[1]); got != c[2] {
			t.Error("Round:", c, got)
		}
	}
}

// TestP8_1RoundModel: all small fractions, and random ones of all sizes.
func TestP8_1RoundModel(t *testing.T) {
	check := func(n, d int) {
		if got, want := quant.Round(n, d), rounded(n, d); got != want {
			t.Error("Round:", n, d, got, "instead of", want)
		}
	}
	for d := 1; d <= 40; d++ {
		for n := -130; n <= 130; n++ {
			check(n, d)
		}
	}
	roll := dice(81)
	for range 20000 {
		d := 1 + roll.below(1<<(1+roll.below(30)))
		d <<= roll.below(30)
		n := roll.around(1<<30) << roll.below(31)
		check(n, d)
		if k := roll.around(1 << 20); d < 1<<38 {
			check(k*d+d/2, d)
			check(k*d-d/2, d)
			check(k*d+d/2-1, d)
			check(k*d-d/2+1, d)
		}
	}
}

// TestP8_1StepsByHand: all steps of some qualities.
func TestP8_1StepsByHand(t *testing.T) {
	for _, c := range byHand {
		if got, want := steps(t, c.colour, c.quality), block(t, c.steps); got != want {
			t.Error("Steps:", c.colour, c.quality, got, "instead of", want)
		}
	}
	for _, colour := range []bool{false, true} {
		if got := steps(t, colour, 1); got != filled(255) {
			t.Error("Steps of quality 1:", colour, got)
		}
		if got := steps(t, colour, 100); got != filled(1) {
			t.Error("Steps of quality 100:", colour, got)
		}
	}
}

// greatest is the greatest number of 0 to most whose product is no greater than
// another number: a quotient rounded down.
func greatest(most, factor, product int) int {
	k := 0
	for k < most && (k+1)*factor <= product {
		k++
	}
	return k
}

// TestP8_1StepsModel: all qualities by the document's rule; a better quality
// has no greater steps; none is beyond its bounds.
func TestP8_1StepsModel(t *testing.T) {
	for _, colour := range []bool{false, true} {
		base := block(t, baseBright)
		if colour {
			base = block(t, baseColour)
		}
		before := filled(255)
		for quality := 1; quality <= 100; quality++ {
			scale := 200 - 2*quality
			if quality < 50 {
				scale = greatest(5000, quality, 5000)
			}
			got := steps(t, colour, quality)
			for i, step := range base {
				want := max(1, greatest(255, 100, step*scale+50))
				if got[i] != want || got[i] > before[i] || got[i] < 1 || got[i] > 255 {
					t.Fatal("Steps:", colour, quality, i, got[i], "instead of", want)
				}
			}
			if !quant.Right(got) {
				t.Error("not right:", colour, quality)
			}
			before = got
		}
	}
}

// TestP8_1StepsRange: qualities that are none.
func TestP8_1StepsRange(t *testing.T) {
	for _, quality := range []int{
		0, 101, -1, -50, -100, 102, 150, 200, 256 + 50, 1<<16 + 50, 1<<32 + 50, -1<<32 + 50, 1 << 62,
		math.MaxInt, math.MinInt, math.MinInt + 50,
	} {
		for _, colour := range []bool{false, true} {
			if got, e := quant.Steps(colour, quality); e != api.ErrRange || got != (api.Block{}) {
				t.Error("Steps:", colour, quality, e, got)
			}
		}
	}
}

// TestP8_1StepsNew: who changes steps changes his own.
func TestP8_1StepsNew(t *testing.T) {
	for _, colour := range []bool{false, true} {
		mine := steps(t, colour, 50)
		want := mine
		for i := range mine {
			mine[i] = -7
		}
		if got := steps(t, colour, 50); got != want {
			t.Error("Steps:", colour, got)
		}
	}
}

// wrongSteps is numbers that no step is.
var wrongSteps = []int{
	0, 256, -1, 257, -255, 1000, 1 << 16, 1<<16 + 1, 1<<32 + 1, -1<<32 + 16, math.MaxInt, math.MinInt, math.MinInt + 1,
}

// TestP8_1Right: steps at their bounds and beyond, at every place.
func TestP8_1Right(t *testing.T) {
	roll := dice(82)
	for _, b := range []api.Block{filled(1), filled(2), filled(254), filled(255), random(1, 255, &roll)} {
		if !quant.Right(b) {
			t.Error("not right:", b)
		}
		for i := range b {
			for _, n := range []int{1, 255} {
				if !quant.Right(with(b, i, n)) {
					t.Error("not right:", i, n)
				}
			}
			for _, n := range wrongSteps {
				if quant.Right(with(b, i, n)) {
					t.Error("right:", i, n)
				}
			}
		}
	}
	if quant.Right(api.Block{}) || quant.Right(filled(256)) || quant.Right(filled(math.MaxInt)) {
		t.Error("right without a right step")
	}
}

// taking is Down or Up.
type taking func(b, steps api.Block) (api.Block, api.Errno)

// refuses tells whether a call returns an error and nothing else.
func refuses(call taking, b, steps api.Block, want api.Errno) bool {
	got, e := call(b, steps)
	return e == want && got == (api.Block{})
}

// takings is both calls, with how far from 0 their numbers may be.
var takings = []struct {
	name string
	call taking
	most int
}{{"Down", quant.Down, 1 << 24}, {"Up", quant.Up, 1023}}

// TestP8_2Steps: steps that are not right, at every place, whatever the
// numbers are.
func TestP8_2Steps(t *testing.T) {
	roll := dice(83)
	for _, c := range takings {
		good := random(-c.most, c.most, &roll)
		blocks := []api.Block{
			good, {}, with(good, 63, c.most+1), with(good, 0, -c.most-1), filled(c.most + 1),
			filled(math.MaxInt), filled(math.MinInt),
		}
		for _, b := range blocks {
			right := random(1, 255, &roll)
			for i := range right {
				for _, n := range wrongSteps {
					if !refuses(c.call, b, with(right, i, n), api.ErrArg) {
						t.Error(c.name, i, n)
					}
				}
			}
			if !refuses(c.call, b, api.Block{}, api.ErrArg) {
				t.Error(c.name, "steps of zeros")
			}
		}
	}
}

// TestP8_2Range: numbers at their bounds and beyond, at every place.
func TestP8_2Range(t *testing.T) {
	roll := dice(84)
	for _, c := range takings {
		b, steps := random(-c.most, c.most, &roll), random(1, 255, &roll)
		for i := range b {
			for _, n := range []int{c.most, -c.most, c.most - 1, 1 - c.most, 0} {
				if _, e := c.call(with(b, i, n), steps); e != api.OK {
					t.Error(c.name, i, n, e)
				}
			}
			for _, n := range []int{
				c.most + 1, -c.most - 1, 2 * c.most, -2 * c.most, 1 << 25, -1 << 25, 1 << 32, 1<<61 + 1,
				math.MaxInt, math.MinInt, math.MinInt + 1,
			} {
				if !refuses(c.call, with(b, i, n), steps, api.ErrRange) {
					t.Error(c.name, i, n)
				}
			}
		}
	}
}

// TestP8_2DownByHand: quotients by hand: integers, halves, those beside halves,
// and those that are held at 1023 and -1023.
func TestP8_2DownByHand(t *testing.T) {
	for _, c := range [][3]int{
		{0, 1, 0}, {0, 255, 0}, {1, 1, 1}, {-1, 1, -1}, {1023, 1, 1023}, {-1023, 1, -1023},
		{1, 2, 1}, {-1, 2, -1}, {3, 2, 2}, {-3, 2, -2}, {5, 2, 3}, {-5, 2, -3},
		{7, 16, 0}, {8, 16, 1}, {9, 16, 1}, {-7, 16, 0}, {-8, 16, -1}, {-9, 16, -1},
		{23, 16, 1}, {24, 16, 2}, {-23, 16, -1}, {-24, 16, -2}, {40, 16, 3}, {-40, 16, -3},
		{127, 255, 0}, {128, 255, 1}, {-127, 255, 0}, {-128, 255, -1},
		{127, 254, 1}, {126, 254, 0}, {-127, 254, -1}, {-126, 254, 0},
		{1024, 1, 1023}, {-1024, 1, -1023}, {1025, 1, 1023}, {1022, 1, 1022}, {-1022, 1, -1022},
		{1 << 24, 1, 1023}, {-1 << 24, 1, -1023}, {1 << 24, 255, 1023}, {-1 << 24, 255, -1023},
		{2045, 2, 1023}, {-2045, 2, -1023}, {2044, 2, 1022}, {-2044, 2, -1022},
		{2046, 2, 1023}, {2047, 2, 1023}, {-2047, 2, -1023}, {2048, 2, 1023}, {-2048, 2, -1023},
		{10225, 10, 1023}, {10224, 10, 1022}, {-10225, 10, -1023}, {-10224, 10, -1022},
		{10235, 10, 1023}, {-10235, 10, -1023}, {1 << 23, 3, 1023}, {1023 * 255, 255, 1023},
	} {
		for _, i := range places {
			got, e := quant.Down(with(api.Block{}, i, c[0]), with(filled(3), i, c[1]))
			if want := with(api.Block{}, i, c[2]); e != api.OK || got != want {
				t.Error("Down:", c, i, e, got[i])
			}
		}
	}
}

// TestP8_2UpByHand: products by hand.
func TestP8_2UpByHand(t *testing.T) {
	for _, c := range [][3]int{
		{0, 1, 0}, {0, 255, 0}, {1, 1, 1}, {-1, 1, -1}, {1, 255, 255}, {-1, 255, -255},
		{1023, 1, 1023}, {-1023, 1, -1023}, {1023, 255, 260865}, {-1023, 255, -260865},
		{7, 16, 112}, {-7, 16, -112}, {500, 99, 49500}, {-26, 16, -416}, {-3, 11, -33},
	} {
		for _, i := range places {
			got, e := quant.Up(with(api.Block{}, i, c[0]), with(filled(3), i, c[1]))
			if want := with(api.Block{}, i, c[2]); e != api.OK || got != want {
				t.Error("Up:", c, i, e, got[i])
			}
		}
	}
}

// TestP8_2Model: random blocks by random steps, each number by the step at its
// own place, and what was handed in stays as it was.
func TestP8_2Model(t *testing.T) {
	roll := dice(85)
	for round := range 600 {
		steps := random(1, 255, &roll)
		most := []int{1 << 24, 1 << 18, 1 << 12, 300}[round%4]
		b, small := random(-most, most, &roll), random(-1023, 1023, &roll)
		b0, small0, steps0 := b, small, steps
		down, e := quant.Down(b, steps)
		up, f := quant.Up(small, steps)
		if e != api.OK || f != api.OK {
			t.Fatal(e, f)
		}
		for i, step := range steps0 {
			if want := min(max(rounded(b0[i], step), -1023), 1023); down[i] != want {
				t.Error("Down:", b0[i], step, down[i], "instead of", want)
			}
			if want := small0[i] * step; up[i] != want {
				t.Error("Up:", small0[i], step, up[i], "instead of", want)
			}
		}
		if b != b0 || small != small0 || steps != steps0 {
			t.Error("an argument was changed")
		}
	}
}

// TestP8_3UpDown: every number with every step comes back.
func TestP8_3UpDown(t *testing.T) {
	check := func(b, steps api.Block) {
		t.Helper()
		up, e := quant.Up(b, steps)
		got, f := quant.Down(up, steps)
		if e != api.OK || f != api.OK || got != b {
			t.Error("Up and Down:", e, f, b, "by", steps, "is", got)
		}
	}
	for step := 1; step <= 255; step++ {
		var b api.Block
		at := 0
		for n := -1023; n <= 1023; n++ {
			b[at%64] = n
			if at++; at%64 == 0 || n == 1023 {
				check(b, filled(step))
			}
		}
	}
	roll := dice(86)
	for range 500 {
		check(random(-1023, 1023, &roll), random(1, 255, &roll))
	}
	for quality := 1; quality <= 100; quality++ {
		for _, colour := range []bool{false, true} {
			check(random(-1023, 1023, &roll), steps(t, colour, quality))
		}
	}
}

// back is a number after Down and Up by a step.
func back(t *testing.T, n, step int) int {
	t.Helper()
	down, e := quant.Down(filled(n), filled(step))
	up, f := quant.Up(down, filled(step))
	if e != api.OK || f != api.OK || up != filled(up[0]) {
		t.Fatal("Down and Up:", n, step, e, f, up)
	}
	return up[0]
}

// TestP8_3DownUp: numbers of up to 1023 steps change by at most half a step:
// those near 0, near the bounds, and between; by just half a step, away from 0,
// where they are halves; beyond 1023 steps what is held comes back.
func TestP8_3DownUp(t *testing.T) {
	roll := dice(87)
	for step := 1; step <= 255; step++ {
		check := func(n int) {
			if n < -1023*step || n > 1023*step {
				return
			}
			if got := back(t, n, step); 2*(got-n) > step || 2*(n-got) > step {
				t.Error("Down and Up:", n, step, got)
			}
		}
		for n := range step + 2 {
			check(n)
			check(-n)
			check(1023*step - n)
			check(n - 1023*step)
		}
		for range 50 {
			check(roll.around(1023 * step))
		}
		if step%2 == 0 {
			for _, k := range []int{0, 1, 2, 500, 1021, 1022} {
				n := k*step + step/2
				if up, down := back(t, n, step), back(t, -n, step); up != n+step/2 || down != -n-step/2 {
					t.Error("halves:", n, step, up, down)
				}
			}
		}
		for _, more := range []int{1, step / 2, step, 10 * step, 1<<24 - 1023*step} {
			n := 1023*step + more
			if up, down := back(t, n, step), back(t, -n, step); up != 1023*step || down != -1023*step {
				t.Error("beyond 1023 steps:", n, step, up, down)
			}
		}
	}
}
