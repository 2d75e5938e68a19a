package colour_test

import (
	"math"
	"slices"
	"testing"

	"clerestory/api"
	"clerestory/colour"
)

// unit is the number by which the sums are divided.
const unit = 65536

// dice is a source of numbers that are the same in every run.
type dice uint64

// below is the next number, less than n.
func (d *dice) below(n int) int {
	*d = *d*6364136223846793005 + 1442695040888963407
	return int(uint64(*d)>>33) % n
}

// three is the numbers of a colour or of a tone.
type three = [3]int

// random is three numbers of 0 to 255.
func random(d *dice) three { return three{d.below(256), d.below(256), d.below(256)} }

// pixel is the colour of three numbers.
func pixel(n three) api.Pixel { return api.Pixel{R: n[0], G: n[1], B: n[2]} }

// tone is the tone of three numbers.
func tone(n three) colour.Tone { return colour.Tone{Y: n[0], Cb: n[1], Cr: n[2]} }

// with is three numbers, one of them another one.
func with(n three, at, other int) three {
	n[at] = other
	return n
}

// corners is the eight of nothing but 0 and 255.
func corners() (out []three) {
	for set := range 8 {
		out = append(out, three{set >> 2 * 255, set >> 1 & 1 * 255, set & 1 * 255})
	}
	return out
}

// grid is all whose numbers are 0 to 255 in steps of 5.
func grid() (out []three) {
	for i := 0; i <= 255; i += 5 {
		for k := 0; k <= 255; k += 5 {
			for m := 0; m <= 255; m += 5 {
				out = append(out, three{i, k, m})
			}
		}
	}
	return out
}

// beyond is numbers that are not 0 to 255.
var beyond = []int{
	-1, -2, -127, -128, -129, -255, -256, -257, -1000, 256, 257, 258, 383, 384, 511, 512, 1000,
	1 << 16, 1<<16 + 1, -1 << 16, 1 << 31, 1<<31 - 1, -1 << 31, 1 << 32, 1<<32 + 1, 1<<32 + 128, 1<<32 + 255, -1 << 32, -1<<32 + 128,
	1 << 48, 1<<48 + 1, 1 << 62, -1 << 62, math.MaxInt, math.MaxInt - 1, math.MaxInt - 127, math.MinInt, math.MinInt + 1, math.MinInt + 128, math.MinInt + 255,
}

// rounded is a sum divided by unit and rounded: of the two integers beside it
// the nearer one, and of two as near the one further from 0.
func rounded(sum int) int {
	down := sum >> 16 // rounded down, below 0 too
	rest := sum - down*unit
	if rest > unit/2 || rest == unit/2 && sum > 0 {
		return down + 1
	}
	return down
}

// limited is a number limited to 0 to 255.
func limited(n int) int {
	switch {
	case n < 0:
		return 0
	case n > 255:
		return 255
	}
	return n
}

// sums is the three sums of a colour, by the document.
func sums(n three) three {
	r, g, b := n[0], n[1], n[2]
	return three{
		19595*r + 38470*g + 7471*b,
		32768*b - 11059*r - 21709*g,
		32768*r - 27439*g - 5329*b,
	}
}

// wantedTone is the tone of a colour, by the document.
func wantedTone(n three) colour.Tone {
	s := sums(n)
	return colour.Tone{
		Y:  limited(rounded(s[0])),
		Cb: limited(128 + rounded(s[1])),
		Cr: limited(128 + rounded(s[2])),
	}
}

// wantedPixel is the colour of a tone, by the document.
func wantedPixel(n three) api.Pixel {
	y, u, v := n[0], n[1]-128, n[2]-128
	return api.Pixel{
		R: limited(y + rounded(91881*v)),
		G: limited(y - rounded(22554*u+46802*v)),
		B: limited(y + rounded(116130*u)),
	}
}

// checkOf holds Of against the document's sums.
func checkOf(t *testing.T, n three) {
	t.Helper()
	if got, e := colour.Of(pixel(n)); got != wantedTone(n) || e != api.OK {
		t.Error("Of:", n, "is", got, e, "instead of", wantedTone(n))
	}
}

// checkPixel holds Pixel against the document's sums.
func checkPixel(t *testing.T, n three) {
	t.Helper()
	if got, e := tone(n).Pixel(); got != wantedPixel(n) || e != api.OK {
		t.Error("Pixel:", n, "is", got, e, "instead of", wantedPixel(n))
	}
}

// checkOfRefused tells unless Of returns ErrRange and nothing else.
func checkOfRefused(t *testing.T, n three) {
	t.Helper()
	if got, e := colour.Of(pixel(n)); got != (colour.Tone{}) || e != api.ErrRange {
		t.Error("Of:", n, "is", got, e)
	}
}

// checkPixelRefused tells unless Pixel returns ErrRange and nothing else.
func checkPixelRefused(t *testing.T, n three) {
	t.Helper()
	if got, e := tone(n).Pixel(); got != (api.Pixel{}) || e != api.ErrRange {
		t.Error("Pixel:", n, "is", got, e)
	}
}

// outside tells check of three numbers of which one, two or all are out of
// their range, in each place.
func outside(t *testing.T, check func(t *testing.T, n three)) {
	t.Helper()
	roll := dice(7)
	for _, out := range beyond {
		for at := range 3 {
			for _, n := range append(corners(), three{128, 128, 128}, three{1, 2, 3}, random(&roll)) {
				check(t, with(n, at, out))
			}
			for _, other := range beyond {
				check(t, with(with(random(&roll), at, out), (at+1)%3, other))
				check(t, with(with(three{out, out, out}, at, other), (at+1)%3, beyond[roll.below(len(beyond))]))
			}
		}
		check(t, three{out, out, out})
	}
}

// alone tells check of each part alone from 0 to 255, the others 0, 128, 255
// and some more.
func alone(t *testing.T, check func(t *testing.T, n three)) {
	t.Helper()
	for at := range 3 {
		for n := range 256 {
			for _, others := range []int{0, 1, 127, 128, 129, 254, 255} {
				check(t, with(three{others, others, others}, at, n))
			}
		}
	}
}

// many tells check of a grid of threes, and of some at random.
func many(t *testing.T, check func(t *testing.T, n three)) {
	t.Helper()
	for _, n := range grid() {
		check(t, n)
	}
	roll := dice(11)
	for range 200000 {
		check(t, random(&roll))
	}
}

// TestExample1: red.
func TestExample1(t *testing.T) {
	if got, e := colour.Of(api.Pixel{R: 255}); got != (colour.Tone{Y: 76, Cb: 85, Cr: 255}) || e != api.OK {
		t.Error("Of:", got, e)
	}
}

// TestP11_1ByHand: corners of the cube, and other colours, whose tones were
// worked out by hand.
func TestP11_1ByHand(t *testing.T) {
	for colours, want := range map[three]three{
		{0, 0, 0}:       {0, 128, 128},
		{255, 0, 0}:     {76, 85, 255},
		{0, 255, 0}:     {150, 44, 21},
		{0, 0, 255}:     {29, 255, 107},
		{255, 255, 0}:   {226, 0, 149},
		{255, 0, 255}:   {105, 212, 235},
		{0, 255, 255}:   {179, 171, 0},
		{255, 255, 255}: {255, 128, 128},
		{1, 0, 0}:       {0, 128, 129},
		{0, 1, 0}:       {1, 128, 128},
		{0, 0, 1}:       {0, 129, 128},
		{1, 2, 3}:       {2, 129, 127},
		{200, 100, 50}:  {124, 86, 182},
		{12, 200, 99}:   {132, 109, 42},
	} {
		if got, e := colour.Of(pixel(colours)); got != tone(want) || e != api.OK {
			t.Error("Of:", colours, "is", got, e, "instead of", want)
		}
	}
}

// TestP11_1Corners: each corner of the cube, as the document's sums have it.
func TestP11_1Corners(t *testing.T) {
	for _, n := range corners() {
		checkOf(t, n)
	}
}

// TestP11_1Alone: each part from 0 to 255.
func TestP11_1Alone(t *testing.T) { alone(t, checkOf) }

// TestP11_1Model: many colours.
func TestP11_1Model(t *testing.T) { many(t, checkOf) }

// rests is, for each sum and for sums of 0 and above and those below 0, how many
// colours have a sum that leaves a rest.
type rests [3][2][unit]int

// sign is 1 of a number below 0, and 0 of others.
func sign(n int) int {
	if n < 0 {
		return 1
	}
	return 0
}

// everyColour tells each of all colours and its sums.
func everyColour(tell func(n, s three)) {
	for i := range 1 << 24 {
		n := three{i >> 16, i >> 8 & 255, i & 255}
		tell(n, sums(n))
	}
}

// near is the rests at a half and an integer, and those of some sum that are
// nearest to them on either side.
func near(counts [unit]int) (out []int) {
	for _, at := range []int{0, unit / 2} {
		out = append(out, at)
		for _, step := range []int{1, unit - 1} {
			rest := (at + step) % unit
			for counts[rest] == 0 {
				rest = (rest + step) % unit
			}
			out = append(out, rest)
		}
	}
	return out
}

// TestP11_1Halves: all colours of which a quotient is a half or an integer, above
// 0 and below, or as near to one as a quotient of colours can be.
func TestP11_1Halves(t *testing.T) {
	var all rests
	everyColour(func(n, s three) {
		for at, sum := range s {
			all[at][sign(sum)][sum&(unit-1)]++
		}
	})
	var asked [3][2][unit]bool
	for at := range all {
		for sign, counts := range all[at] {
			if at == 0 && sign == 1 {
				continue // brightness is never below 0
			}
			if counts[unit/2] == 0 {
				t.Error("no colour whose quotient is a half:", at, sign)
			}
			for _, rest := range near(counts) {
				asked[at][sign][rest] = true
			}
		}
	}
	everyColour(func(n, s three) {
		for at, sum := range s {
			if asked[at][sign(sum)][sum&(unit-1)] {
				checkOf(t, n)
			}
		}
	})
}

// TestP11_1HalvesByHand: quotients that are halves: away from 0, before 128 is
// added.
func TestP11_1HalvesByHand(t *testing.T) {
	for colours, want := range map[three]three{
		{1, 0, 0}:     {0, 128, 129}, // the quotient of Cr is 1/2
		{0, 0, 1}:     {0, 129, 128}, // that of Cb is
		{3, 0, 0}:     {1, 127, 130}, // that of Cr is 3/2
		{0, 0, 3}:     {0, 130, 128},
		{255, 0, 0}:   {76, 85, 255}, // that of Cr is 255/2: 128 and 128 is too much
		{0, 0, 255}:   {29, 255, 107},
		{255, 255, 0}: {226, 0, 149}, // that of Cb is -255/2: 0, and not 1
		{0, 255, 255}: {179, 171, 0}, // that of Cr is
		{254, 254, 1}: {225, 1, 149}, // that of Cb is -253/2: 1, and not 2
	} {
		if got, e := colour.Of(pixel(colours)); got != tone(want) || e != api.OK {
			t.Error("Of:", colours, "is", got, e, "instead of", want)
		}
	}
}

// TestP11_1Range: colours that are none.
func TestP11_1Range(t *testing.T) { outside(t, checkOfRefused) }

// TestP11_1AllEmpty: no colours.
func TestP11_1AllEmpty(t *testing.T) {
	for _, l := range [][]api.Pixel{nil, {}, make([]api.Pixel, 0, 5)} {
		if got, e := colour.All(l); len(got) != 0 || e != api.OK {
			t.Error("All:", got, e)
		}
	}
}

// colours is so many colours at random.
func colours(count int, d *dice) (l []api.Pixel) {
	for range count {
		l = append(l, pixel(random(d)))
	}
	return l
}

// wantedTones is the tones of colours, by the document.
func wantedTones(l []api.Pixel) (out []colour.Tone) {
	for _, p := range l {
		out = append(out, wantedTone(three{p.R, p.G, p.B}))
	}
	return out
}

// TestP11_1All: one colour and many, in their order, some of them the same.
func TestP11_1All(t *testing.T) {
	got, e := colour.All([]api.Pixel{{R: 255}, {G: 255}, {B: 255}, {}, {R: 255}, {R: 255, G: 255, B: 255}})
	want := []colour.Tone{{76, 85, 255}, {150, 44, 21}, {29, 255, 107}, {0, 128, 128}, {76, 85, 255}, {255, 128, 128}}
	if !slices.Equal(got, want) || e != api.OK {
		t.Error("All:", got, e)
	}
	roll := dice(13)
	for _, count := range []int{1, 2, 3, 4, 5, 7, 8, 9, 63, 64, 65, 256, 1000, 16384, 20000} {
		l := colours(count, &roll)
		if got, e := colour.All(l); !slices.Equal(got, wantedTones(l)) || e != api.OK {
			t.Error("All:", count, "colours", e)
		}
	}
}

// TestP11_1AllRange: a colour that is none, first, in the middle and last, alone
// and beside others.
func TestP11_1AllRange(t *testing.T) {
	roll := dice(17)
	for _, count := range []int{1, 2, 3, 10, 300} {
		for _, at := range []int{0, 1, count / 2, count - 2, count - 1} {
			if at < 0 || at >= count {
				continue
			}
			for _, out := range beyond {
				for part := range 3 {
					l := colours(count, &roll)
					l[at] = pixel(with(random(&roll), part, out))
					if got, e := colour.All(l); len(got) != 0 || e != api.ErrRange {
						t.Error("All:", count, at, part, out, "is", len(got), e)
					}
				}
			}
		}
	}
	l := colours(9, &roll)
	l[2].R, l[5].G, l[8].B = 256, -1, 999
	if got, e := colour.All(l); len(got) != 0 || e != api.ErrRange {
		t.Error("All:", got, e)
	}
}

// TestP11_1AllKept: what All is given stays as it was, and behind its end too.
func TestP11_1AllKept(t *testing.T) {
	roll := dice(19)
	for _, bad := range []bool{false, true} {
		whole := colours(40, &roll)
		if bad {
			whole[20].B = 256
		}
		given := slices.Clone(whole)
		if _, e := colour.All(whole[:30]); (e != api.OK) != bad {
			t.Error("All:", e)
		}
		if !slices.Equal(whole, given) {
			t.Error("All changed the colours")
		}
	}
}

// TestP11_1AllBehind: a colour that is none behind the end of the list is none
// of the list.
func TestP11_1AllBehind(t *testing.T) {
	l := []api.Pixel{{R: 1}, {R: 2}, {R: 256}}
	if got, e := colour.All(l[:2]); len(got) != 2 || e != api.OK {
		t.Error("All:", got, e)
	}
}

// TestP11_1AllNew: what All tells may be written over, up to its capacity, and
// what it was given too.
func TestP11_1AllNew(t *testing.T) {
	roll := dice(23)
	l := colours(50, &roll)
	want := wantedTones(l)
	first, _ := colour.All(l)
	second, _ := colour.All(l)
	first = first[:cap(first)]
	for i := range first {
		first[i] = colour.Tone{Y: -1, Cb: -1, Cr: -1}
	}
	if !slices.Equal(second, want) {
		t.Error("All: two results share memory")
	}
	for i := range l {
		l[i] = api.Pixel{}
	}
	if !slices.Equal(second, want) {
		t.Error("All: a result shares memory with what was given")
	}
	third, _ := colour.All([]api.Pixel{{R: 255}})
	if !slices.Equal(third, []colour.Tone{{76, 85, 255}}) || !slices.Equal(second, want) {
		t.Error("All: what was written over is told again:", third)
	}
}

// TestP11_2ByHand: corners, and other tones, whose colours were worked out by
// hand.
func TestP11_2ByHand(t *testing.T) {
	for tones, want := range map[three]three{
		{0, 0, 0}:       {0, 135, 0},
		{0, 0, 255}:     {178, 0, 0},
		{0, 255, 0}:     {0, 48, 225},
		{0, 255, 255}:   {178, 0, 225},
		{255, 0, 0}:     {76, 255, 28},
		{255, 0, 255}:   {255, 208, 28},
		{255, 255, 0}:   {76, 255, 255},
		{255, 255, 255}: {255, 121, 255},
		{128, 128, 128}: {128, 128, 128},
		{100, 90, 200}:  {201, 62, 33},
		{76, 85, 255}:   {254, 0, 0},
		{150, 44, 21}:   {0, 255, 1},
		{29, 255, 107}:  {0, 0, 254},
		{124, 86, 182}:  {200, 100, 50},
		{132, 109, 42}:  {11, 200, 98},
	} {
		if got, e := tone(tones).Pixel(); got != pixel(want) || e != api.OK {
			t.Error("Pixel:", tones, "is", got, e, "instead of", want)
		}
	}
}

// TestP11_2Corners: each corner, as the document's sums have it.
func TestP11_2Corners(t *testing.T) {
	for _, n := range corners() {
		checkPixel(t, n)
	}
}

// TestP11_2Alone: each part from 0 to 255.
func TestP11_2Alone(t *testing.T) { alone(t, checkPixel) }

// TestP11_2Model: many tones.
func TestP11_2Model(t *testing.T) { many(t, checkPixel) }

// TestP11_2Tints: all tints, with the least brightness, some between and the
// greatest.
func TestP11_2Tints(t *testing.T) {
	for cb := range 256 {
		for cr := range 256 {
			for _, y := range []int{0, 1, 100, 128, 254, 255} {
				checkPixel(t, three{y, cb, cr})
			}
		}
	}
}

// TestP11_2Range: tones that are none.
func TestP11_2Range(t *testing.T) { outside(t, checkPixelRefused) }

// TestP11_3: each grey there and back, in a list too.
func TestP11_3(t *testing.T) {
	var greys []api.Pixel
	for n := range 256 {
		greys = append(greys, api.Pixel{R: n, G: n, B: n})
	}
	tones, e := colour.All(greys)
	if e != api.OK || len(tones) != len(greys) {
		t.Fatal("All:", len(tones), e)
	}
	for n, grey := range greys {
		want := colour.Tone{Y: n, Cb: 128, Cr: 128}
		got, e := colour.Of(grey)
		if got != want || tones[n] != want || e != api.OK {
			t.Error("Of:", grey, "is", got, tones[n], e)
		}
		if back, e := got.Pixel(); back != grey || e != api.OK {
			t.Error("Pixel:", got, "is", back, e)
		}
	}
}
