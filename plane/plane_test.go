package plane_test

import (
	"math"
	"slices"
	"testing"

	"clerestory/api"
	"clerestory/plane"
)

// dice is a source of numbers that are the same in every run.
type dice uint64

// below is the next number, less than n.
func (d *dice) below(n int) int {
	*d = *d*6364136223846793005 + 1442695040888963407
	return int(uint64(*d)>>33) % n
}

// random is a plane of samples at random, many of them 0 and 255.
func random(w, h int, d *dice) api.Plane {
	s := make([]int, w*h)
	for i := range s {
		s[i] = min(max(d.below(320)-32, 0), 255)
	}
	return api.Plane{W: w, H: h, S: s}
}

// of is the plane of some rows.
func of(rows ...[]int) api.Plane {
	return api.Plane{W: len(rows[0]), H: len(rows), S: slices.Concat(rows...)}
}

// rows is a plane row by row.
func rows(p api.Plane) (out [][]int) {
	for y := range p.H {
		out = append(out, slices.Clone(p.S[y*p.W:][:p.W]))
	}
	return out
}

// turned is rows as columns.
func turned(rows [][]int) [][]int {
	out := make([][]int, len(rows[0]))
	for _, row := range rows {
		for x, n := range row {
			out[x] = append(out[x], n)
		}
	}
	return out
}

// same tells whether two planes are the same.
func same(p, q api.Plane) bool { return p.W == q.W && p.H == q.H && slices.Equal(p.S, q.S) }

// none tells whether a plane is the zero plane.
func none(p api.Plane) bool { return p.W == 0 && p.H == 0 && len(p.S) == 0 }

// copied is a plane of its own memory.
func copied(p api.Plane) api.Plane {
	p.S = slices.Clone(p.S)
	return p
}

// changed is a plane with another sample at a place.
func changed(p api.Plane, at, n int) api.Plane {
	p = copied(p)
	p.S[at] = n
	return p
}

// ways tells of each of the four ways of across and down.
func ways(tell func(across, down bool)) {
	for _, across := range []bool{false, true} {
		tell(across, false)
		tell(across, true)
	}
}

// sizes is numbers of columns and rows: small ones, and those about multiples of
// 8 and bounds.
var sizes = []int{1, 2, 3, 4, 5, 6, 7, 8, 9, 10, 15, 16, 17, 23, 24, 25, 31, 32, 33, 63, 64, 65, 100, 119, 120, 121, 126, 127, 128}

// beyond is numbers of columns or rows that no plane has.
var beyond = []int{
	0, -1, -2, -8, -127, -128, -129, 129, 130, 136, 255, 256, 257, 1000, 16384, 1 << 16, 1<<16 + 1, -1 << 16,
	1 << 31, 1<<31 - 1, -1 << 31, 1 << 32, 1<<32 + 1, 1<<32 + 8, 1<<32 + 128, -1 << 32, -1<<32 + 1, -1<<32 + 128,
	1 << 56, 1 << 57, 1<<57 + 1, 1<<61 + 1, 1 << 62, 1<<62 + 1, -1 << 62, math.MaxInt, math.MaxInt - 1, math.MaxInt - 6, math.MaxInt - 7, math.MaxInt - 127, math.MinInt, math.MinInt + 1, math.MinInt + 128,
}

// notSamples is numbers that no sample is.
var notSamples = []int{
	-1, -2, -128, -255, -256, -1000, 256, 257, 258, 383, 384, 511, 512, 1000, 1 << 16, 1<<16 + 1, -1 << 16, 1 << 31, -1 << 31,
	1 << 32, 1<<32 + 1, 1<<32 + 255, -1 << 32, -1<<32 + 128, 1 << 62, -1 << 62, math.MaxInt, math.MaxInt - 255, math.MinInt, math.MinInt + 1, math.MinInt + 255,
}

// broken is planes that are not valid.
func broken() (out []api.Plane) {
	roll := dice(3)
	p := random(5, 3, &roll)
	out = []api.Plane{
		{}, {S: []int{}}, {S: []int{1}}, {W: 1}, {H: 1}, {W: 1, H: 1}, {W: 1, H: 1, S: []int{}}, {W: 1, S: []int{1}}, {H: 1, S: []int{1}},
		{W: -1, H: -1, S: []int{1}}, {W: -2, H: -2, S: []int{1, 2, 3, 4}}, {W: -1, H: 1, S: []int{1}}, {W: 1, H: -1, S: []int{1}},
		{W: 5, H: 3}, {W: 5, H: 3, S: p.S[:14]}, {W: 5, H: 3, S: slices.Concat(p.S, []int{1})}, {W: 5, H: 2, S: p.S}, {W: 3, H: 4, S: p.S}, {W: 6, H: 3, S: p.S},
		random(129, 1, &roll), random(1, 129, &roll), random(129, 129, &roll), random(128, 129, &roll), random(129, 128, &roll), random(256, 64, &roll), random(64, 256, &roll),
		{W: 128, H: 128, S: make([]int, 128*128-1)}, {W: 128, H: 128, S: make([]int, 128*128+1)}, {W: -128, H: -128, S: make([]int, 128*128)},
		// The products of these wrap round to the number of samples.
		{W: 1 << 32, H: 1 << 32}, {W: 1 << 62, H: 4}, {W: 4, H: 1 << 62}, {W: 1 << 57, H: 128}, {W: 1<<57 + 1, H: 128, S: make([]int, 128)}, {W: 128, H: 1<<57 + 1, S: make([]int, 128)}, {W: math.MinInt, H: 2}, {W: math.MaxInt, H: math.MaxInt, S: []int{1}},
	}
	for _, n := range beyond {
		out = append(out, api.Plane{W: n, H: 1, S: []int{1}}, api.Plane{W: 1, H: n, S: []int{1}}, api.Plane{W: n, H: n, S: []int{1}}, api.Plane{W: n, H: 8}, api.Plane{W: 8, H: n})
	}
	for _, n := range notSamples {
		for at := range p.S {
			out = append(out, changed(p, at, n))
		}
		out = append(out, api.Plane{W: 1, H: 1, S: []int{n}})
	}
	big := random(128, 128, &roll)
	for _, n := range []int{-1, 256} {
		for _, at := range []int{0, 127, 128, 8000, 128*128 - 1} {
			out = append(out, changed(big, at, n))
		}
	}
	return out
}

// nearest is a position of 0 to count-1: of others the nearest one.
func nearest(at, count int) int {
	switch {
	case at < 0:
		return 0
	case at >= count:
		return count - 1
	}
	return at
}

// widened is rows with so many more columns, each of them the last one.
func widened(rows [][]int, more int) (out [][]int) {
	for _, row := range rows {
		out = append(out, slices.Concat(row, slices.Repeat(row[len(row)-1:], more)))
	}
	return out
}

// extended is rows as rows of w by h at the least: the last column and the last
// row as often as it takes.
func extended(rows [][]int, w, h int) [][]int {
	rows = widened(rows, max(0, w-len(rows[0])))
	return turned(widened(turned(rows), max(0, h-len(rows))))
}

// part is the part of rows of w by h from column x and row y on.
func part(rows [][]int, x, y, w, h int) (out [][]int) {
	for _, row := range extended(rows, x+w, y+h)[y : y+h] {
		out = append(out, slices.Clone(row[x:x+w]))
	}
	return out
}

// pairs is rows with each two columns as their sum, the last one of an odd number
// taken twice.
func pairs(rows [][]int) (out [][]int) {
	for _, row := range extended(rows, (len(rows[0])+1)/2*2, 0) {
		var sums []int
		for pair := range slices.Chunk(row, 2) {
			sums = append(sums, pair[0]+pair[1])
		}
		out = append(out, sums)
	}
	return out
}

// wantedHalf is a plane halved, by the document.
func wantedHalf(p api.Plane, across, down bool) api.Plane {
	sums, count := rows(p), 1
	if across {
		sums, count = pairs(sums), 2*count
	}
	if down {
		sums, count = turned(pairs(turned(sums))), 2*count
	}
	for _, row := range sums {
		for x, sum := range row {
			row[x] = sum / count
			if 2*(sum%count) >= count { // a half, or more, is left
				row[x]++
			}
		}
	}
	return of(sums...)
}

// doubled is rows with each column twice.
func doubled(rows [][]int) (out [][]int) {
	for _, row := range rows {
		var twice []int
		for _, n := range row {
			twice = append(twice, n, n)
		}
		out = append(out, twice)
	}
	return out
}

// wantedGrown is a plane grown, by the document.
func wantedGrown(p api.Plane, across, down bool, w, h int) api.Plane {
	grown := rows(p)
	if across {
		grown = doubled(grown)
	}
	if down {
		grown = turned(doubled(turned(grown)))
	}
	return of(part(grown, 0, 0, w, h)...)
}

// up is a number up to the next multiple of 8.
func up(n int) int {
	for n%8 != 0 {
		n++
	}
	return n
}

// wantedBlocks is a plane's blocks, by the document.
func wantedBlocks(p api.Plane) (l []api.Block) {
	all := extended(rows(p), up(p.W), up(p.H))
	for band := range slices.Chunk(all, 8) {
		for x := 0; x < len(all[0]); x += 8 {
			var b api.Block
			for y, row := range band {
				for i, n := range row[x : x+8] {
					b[8*y+i] = n - 128
				}
			}
			l = append(l, b)
		}
	}
	return l
}

// limited is a number plus 128, limited to 0 to 255.
func limited(n int) int {
	switch {
	case n < -128:
		return 0
	case n > 127:
		return 255
	}
	return n + 128
}

// wantedJoined is the plane of some blocks, by the document.
func wantedJoined(l []api.Block, w, h int) api.Plane {
	all := make([][]int, up(h))
	for i, b := range l {
		band := i / (up(w) / 8)
		for at, n := range b {
			y := 8*band + at/8
			all[y] = append(all[y], limited(n)) // a block comes behind those to its left
		}
	}
	return of(part(all, 0, 0, w, h)...)
}

// count is how many blocks a plane needs.
func count(w, h int) int { return up(w) / 8 * (up(h) / 8) }

// blocks is so many blocks of numbers of least to most.
func blocks(count, least, most int, d *dice) []api.Block {
	l := make([]api.Block, count)
	for i := range l {
		for at := range l[i] {
			l[i][at] = least + d.below(most-least+1)
		}
	}
	return l
}

// filled is the block of a number alone.
func filled(n int) (b api.Block) {
	for i := range b {
		b[i] = n
	}
	return b
}

// TestExample1: three samples halved across.
func TestExample1(t *testing.T) {
	p := api.Plane{W: 3, H: 1, S: []int{10, 20, 31}}
	if got, e := plane.Halve(p, true, false); !same(got, api.Plane{W: 2, H: 1, S: []int{15, 31}}) || e != api.OK {
		t.Error("Halve:", got, e)
	}
}

// TestP12_1Right: planes of each size.
func TestP12_1Right(t *testing.T) {
	roll := dice(5)
	for w := 1; w <= 128; w++ {
		for h := 1; h <= 128; h++ {
			p := api.Plane{W: w, H: h, S: make([]int, w*h)}
			if !plane.Right(p) {
				t.Error("Right: not", w, h)
			}
			if w%8 == 1 && !plane.Right(random(w, h, &roll)) {
				t.Error("Right: not at random", w, h)
			}
		}
	}
}

// TestP12_1RightSizes: numbers of columns and rows about the bounds and far from
// them, with as many samples as they ask for, one less, one more, and none.
func TestP12_1RightSizes(t *testing.T) {
	about := []int{-129, -128, -127, -2, -1, 0, 1, 2, 3, 127, 128, 129, 130, 256}
	for _, w := range about {
		for _, h := range about {
			for _, more := range []int{-1, 0, 1} {
				if w*h+more < 0 {
					continue
				}
				want := w >= 1 && w <= 128 && h >= 1 && h <= 128 && more == 0
				if plane.Right(api.Plane{W: w, H: h, S: make([]int, w*h+more)}) != want {
					t.Error("Right:", w, h, more, "is", !want)
				}
			}
			for _, s := range [][]int{nil, {}, make([]int, 0, 128*128)} {
				if plane.Right(api.Plane{W: w, H: h, S: s}) {
					t.Error("Right:", w, h, "without samples")
				}
			}
		}
	}
}

// TestP12_1RightBroken: planes that are not valid.
func TestP12_1RightBroken(t *testing.T) {
	for _, p := range broken() {
		if plane.Right(p) {
			t.Error("Right:", p.W, p.H, len(p.S))
		}
	}
}

// TestP12_1RightSamples: samples at the bounds and beyond them, at each place.
func TestP12_1RightSamples(t *testing.T) {
	roll := dice(7)
	for _, size := range [][2]int{{1, 1}, {5, 3}, {1, 9}, {9, 1}, {16, 16}, {128, 2}, {2, 128}} {
		p := random(size[0], size[1], &roll)
		for at := range p.S {
			for _, n := range []int{0, 1, 127, 128, 254, 255} {
				if !plane.Right(changed(p, at, n)) {
					t.Error("Right: not", size, at, n)
				}
			}
			for _, n := range notSamples {
				if plane.Right(changed(p, at, n)) {
					t.Error("Right:", size, at, n)
				}
			}
		}
	}
}

// TestP12_1RightBehind: what lies behind the end of the samples is none of them.
func TestP12_1RightBehind(t *testing.T) {
	s := []int{1, 2, 3, 4, 256, -1}
	if !plane.Right(api.Plane{W: 2, H: 2, S: s[:4]}) || plane.Right(api.Plane{W: 3, H: 2, S: s[:4]}) {
		t.Error("Right: by what is behind the end")
	}
}

// TestP12_1AtByHand: the corners of a plane, and around them.
func TestP12_1AtByHand(t *testing.T) {
	p := of([]int{1, 2, 3}, []int{4, 5, 6})
	for place, want := range map[[2]int]int{
		{0, 0}: 1, {1, 0}: 2, {2, 0}: 3, {0, 1}: 4, {1, 1}: 5, {2, 1}: 6,
		{-1, 0}: 1, {0, -1}: 1, {-1, -1}: 1, {1, -1}: 2, {2, -1}: 3, {3, 0}: 3, {3, -1}: 3, {-1, 1}: 4,
		{-1, 2}: 4, {0, 2}: 4, {1, 2}: 5, {2, 2}: 6, {3, 2}: 6, {3, 1}: 6,
		{math.MinInt, math.MinInt}: 1, {math.MaxInt, math.MinInt}: 3, {math.MinInt, math.MaxInt}: 4, {math.MaxInt, math.MaxInt}: 6, {1, math.MaxInt}: 5, {math.MaxInt, 1}: 6, {1<<32 + 1, 0}: 3, {0, 1 << 32}: 4,
	} {
		if got := plane.At(p, place[0], place[1]); got != want {
			t.Error("At:", place, "is", got, "instead of", want)
		}
	}
}

// positions is all positions within a number of columns or rows and around it,
// and some far from it.
func positions(count int) (out []int) {
	for at := -3; at <= count+3; at++ {
		out = append(out, at)
	}
	return append(out, beyond...)
}

// TestP12_1At: every place of planes, and beyond each edge.
func TestP12_1At(t *testing.T) {
	roll := dice(11)
	for _, size := range [][2]int{{1, 1}, {1, 2}, {2, 1}, {3, 2}, {1, 7}, {7, 1}, {4, 9}, {13, 5}, {128, 1}, {1, 128}} {
		p := random(size[0], size[1], &roll)
		for _, y := range positions(p.H) {
			for _, x := range positions(p.W) {
				want := p.S[nearest(y, p.H)*p.W+nearest(x, p.W)]
				if got := plane.At(p, x, y); got != want {
					t.Error("At:", size, x, y, "is", got, "instead of", want)
				}
			}
		}
	}
}

// TestP12_1AtBig: the corners and edges of the greatest plane.
func TestP12_1AtBig(t *testing.T) {
	roll := dice(13)
	p := random(128, 128, &roll)
	for _, y := range []int{-1, 0, 1, 63, 126, 127, 128, 129, math.MaxInt} {
		for _, x := range positions(p.W) {
			want := p.S[nearest(y, p.H)*p.W+nearest(x, p.W)]
			if got := plane.At(p, x, y); got != want {
				t.Error("At:", x, y, "is", got, "instead of", want)
			}
		}
	}
}

// TestP12_1AtBroken: 0 of planes that are not valid, within them too.
func TestP12_1AtBroken(t *testing.T) {
	for _, p := range broken() {
		for _, at := range [][2]int{{0, 0}, {1, 1}, {4, 2}, {-1, 0}, {0, -1}, {128, 128}, {math.MaxInt, 0}, {math.MinInt, math.MinInt}} {
			if got := plane.At(p, at[0], at[1]); got != 0 {
				t.Error("At:", p.W, p.H, len(p.S), at, "is", got)
			}
		}
	}
}

// checkCrop holds Crop against the document.
func checkCrop(t *testing.T, p api.Plane, x, y, w, h int) {
	t.Helper()
	got, e := plane.Crop(p, x, y, w, h)
	if !same(got, of(part(rows(p), x, y, w, h)...)) || e != api.OK {
		t.Error("Crop:", p.W, p.H, x, y, w, h, "is", got.W, got.H, e)
	}
}

// TestP12_1CropByHand: parts of a plane.
func TestP12_1CropByHand(t *testing.T) {
	p := of([]int{1, 2, 3}, []int{4, 5, 6}, []int{7, 8, 9})
	for _, c := range []struct {
		x, y, w, h int
		want       api.Plane
	}{
		{0, 0, 3, 3, p},
		{0, 0, 1, 1, of([]int{1})},
		{1, 0, 2, 1, of([]int{2, 3})},
		{1, 1, 2, 2, of([]int{5, 6}, []int{8, 9})},
		{2, 1, 1, 2, of([]int{6}, []int{9})},
		{2, 0, 3, 2, of([]int{3, 3, 3}, []int{6, 6, 6})},
		{0, 2, 2, 3, of([]int{7, 8}, []int{7, 8}, []int{7, 8})},
		{2, 2, 2, 2, of([]int{9, 9}, []int{9, 9})},
		{3, 0, 1, 3, of([]int{3}, []int{6}, []int{9})},
		{0, 3, 3, 1, of([]int{7, 8, 9})},
		{128, 128, 2, 1, of([]int{9, 9})},
		{1, 128, 3, 1, of([]int{8, 9, 9})},
	} {
		if got, e := plane.Crop(p, c.x, c.y, c.w, c.h); !same(got, c.want) || e != api.OK {
			t.Error("Crop:", c, "is", got, e)
		}
	}
}

// TestP12_1Crop: all parts of small planes, and beyond each edge.
func TestP12_1Crop(t *testing.T) {
	roll := dice(17)
	for _, size := range [][2]int{{1, 1}, {2, 1}, {1, 3}, {3, 2}, {4, 5}, {9, 8}} {
		p := random(size[0], size[1], &roll)
		for x := range p.W + 3 {
			for y := range p.H + 3 {
				for w := 1; w < p.W+3; w++ {
					for h := 1; h < p.H+3; h++ {
						checkCrop(t, p, x, y, w, h)
					}
				}
			}
		}
	}
}

// TestP12_1CropBounds: the bounds of positions and sizes, of planes small and
// great.
func TestP12_1CropBounds(t *testing.T) {
	roll := dice(19)
	for _, size := range [][2]int{{1, 1}, {3, 128}, {128, 3}, {128, 128}, {100, 77}} {
		p := random(size[0], size[1], &roll)
		checkCrop(t, p, 0, 0, p.W, p.H)
		for _, x := range []int{0, 1, 64, 127, 128} {
			for _, y := range []int{0, 1, 64, 127, 128} {
				for _, w := range []int{1, 2, 127, 128} {
					checkCrop(t, p, x, y, w, 1)
					checkCrop(t, p, x, y, 1, w)
					checkCrop(t, p, x, y, w, 128)
				}
			}
		}
		for range 100 {
			checkCrop(t, p, roll.below(129), roll.below(129), 1+roll.below(128), 1+roll.below(128))
		}
	}
}

// checkCropRefused tells unless Crop returns an error and nothing else.
func checkCropRefused(t *testing.T, p api.Plane, x, y, w, h int, want api.Errno) {
	t.Helper()
	if got, e := plane.Crop(p, x, y, w, h); !none(got) || e != want {
		t.Error("Crop:", p.W, p.H, len(p.S), x, y, w, h, "is", got.W, got.H, len(got.S), e)
	}
}

// TestP12_1CropRange: sizes and positions out of their range, alone and together.
func TestP12_1CropRange(t *testing.T) {
	roll := dice(23)
	for _, size := range [][2]int{{1, 1}, {5, 3}, {128, 128}} {
		p := random(size[0], size[1], &roll)
		for _, out := range beyond {
			checkCropRefused(t, p, 0, 0, out, 1, api.ErrRange)
			checkCropRefused(t, p, 0, 0, 1, out, api.ErrRange)
			checkCropRefused(t, p, 128, 128, out, 128, api.ErrRange)
			checkCropRefused(t, p, 128, 128, 128, out, api.ErrRange)
			checkCropRefused(t, p, 1, 1, out, out, api.ErrRange)
			if out == 0 {
				continue // no size, but a position
			}
			checkCropRefused(t, p, out, 0, 1, 1, api.ErrRange)
			checkCropRefused(t, p, 0, out, 1, 1, api.ErrRange)
			checkCropRefused(t, p, out, 128, 128, 128, api.ErrRange)
			checkCropRefused(t, p, 128, out, 128, 128, api.ErrRange)
			checkCropRefused(t, p, out, out, out, out, api.ErrRange)
		}
	}
}

// TestP12_1CropBroken: planes that are not valid, whatever is asked of them.
func TestP12_1CropBroken(t *testing.T) {
	for _, p := range broken() {
		checkCropRefused(t, p, 0, 0, 1, 1, api.ErrArg)
		checkCropRefused(t, p, 0, 0, p.W, p.H, api.ErrArg)
		checkCropRefused(t, p, 128, 128, 128, 128, api.ErrArg)
		for _, out := range []int{-1, 129, math.MaxInt, math.MinInt} {
			checkCropRefused(t, p, out, 0, 1, 1, api.ErrArg)
			checkCropRefused(t, p, 0, out, 1, 1, api.ErrArg)
			checkCropRefused(t, p, 0, 0, out, 1, api.ErrArg)
			checkCropRefused(t, p, 0, 0, 1, out, api.ErrArg)
			checkCropRefused(t, p, 0, 0, 0, 0, api.ErrArg)
		}
	}
}

// checkHalve holds Halve against the document, all four ways.
func checkHalve(t *testing.T, p api.Plane) {
	t.Helper()
	ways(func(across, down bool) {
		if got, e := plane.Halve(p, across, down); !same(got, wantedHalf(p, across, down)) || e != api.OK {
			t.Error("Halve:", p.W, p.H, across, down, "is", got.W, got.H, e)
		}
	})
}

// TestP12_2HalveByHand: planes of odd and even sizes, with means that are halves.
func TestP12_2HalveByHand(t *testing.T) {
	nine := of([]int{1, 2, 3}, []int{4, 5, 6}, []int{7, 8, 10})
	for _, c := range []struct {
		p            api.Plane
		across, down bool
		want         api.Plane
	}{
		{nine, false, false, nine},
		{nine, true, false, of([]int{2, 3}, []int{5, 6}, []int{8, 10})},
		{nine, false, true, of([]int{3, 4, 5}, []int{7, 8, 10})},
		{nine, true, true, of([]int{3, 5}, []int{8, 10})},
		{of([]int{0, 255}), true, false, of([]int{128})},
		{of([]int{0, 255}), false, true, of([]int{0, 255})},
		{of([]int{0, 255}), true, true, of([]int{128})},
		{of([]int{0}, []int{255}), true, false, of([]int{0}, []int{255})},
		{of([]int{0}, []int{255}), false, true, of([]int{128})},
		{of([]int{254}, []int{255}), true, true, of([]int{255})},
		{of([]int{7}), true, true, of([]int{7})},
		{of([]int{0}), true, false, of([]int{0})},
		{of([]int{255}), false, true, of([]int{255})},
		// Of the mean of all four, and not of means.
		{of([]int{0, 1}, []int{0, 0}), true, true, of([]int{0})},
		{of([]int{0, 1}, []int{0, 1}), true, true, of([]int{1})},
		{of([]int{0, 0}, []int{1, 1}), true, true, of([]int{1})},
		{of([]int{1, 1}, []int{1, 0}), true, true, of([]int{1})},
		{of([]int{254, 255}, []int{254, 254}), true, true, of([]int{254})},
		{of([]int{255, 255}, []int{254, 254}), true, true, of([]int{255})},
		{of([]int{1, 2, 4, 9, 20}), true, true, of([]int{2, 7, 20})},
	} {
		if got, e := plane.Halve(c.p, c.across, c.down); !same(got, c.want) || e != api.OK {
			t.Error("Halve:", c, "is", got, e)
		}
	}
}

// TestP12_2HalvePairs: the mean of each two samples that there are.
func TestP12_2HalvePairs(t *testing.T) {
	for first := range 256 {
		var row []int
		for second := range 64 {
			row = append(row, first, 4*second+first%4)
		}
		p := of(row)
		checkHalve(t, p)
		p.W, p.H = p.H, p.W
		checkHalve(t, p)
	}
}

// TestP12_2HalveFours: the mean of four samples whose sum is each of all sums.
func TestP12_2HalveFours(t *testing.T) {
	roll := dice(29)
	for sum := range 4*255 + 1 {
		four := []int{0, 0, 0, 0}
		for left := sum; left > 0; {
			if at := roll.below(4); four[at] < 255 {
				four[at]++
				left--
			}
		}
		want := sum / 4
		if sum%4 >= 2 {
			want++
		}
		got, e := plane.Halve(api.Plane{W: 2, H: 2, S: four}, true, true)
		if !same(got, api.Plane{W: 1, H: 1, S: []int{want}}) || e != api.OK {
			t.Error("Halve:", four, "is", got, e, "instead of", want)
		}
	}
}

// TestP12_2Halve: planes of many sizes.
func TestP12_2Halve(t *testing.T) {
	roll := dice(31)
	for _, w := range sizes {
		for _, h := range sizes {
			if w <= 33 || h <= 9 || w == 127 && h >= 127 || w == 128 && h >= 127 {
				checkHalve(t, random(w, h, &roll))
			}
		}
	}
}

// TestP12_2HalveBroken: planes that are not valid.
func TestP12_2HalveBroken(t *testing.T) {
	for _, p := range broken() {
		ways(func(across, down bool) {
			if got, e := plane.Halve(p, across, down); !none(got) || e != api.ErrArg {
				t.Error("Halve:", p.W, p.H, len(p.S), across, down, "is", got.W, got.H, len(got.S), e)
			}
		})
	}
}

// checkGrow holds Grow against the document, all four ways.
func checkGrow(t *testing.T, p api.Plane, w, h int) {
	t.Helper()
	ways(func(across, down bool) {
		if got, e := plane.Grow(p, across, down, w, h); !same(got, wantedGrown(p, across, down, w, h)) || e != api.OK {
			t.Error("Grow:", p.W, p.H, across, down, w, h, "is", got.W, got.H, e)
		}
	})
}

// TestP12_2GrowByHand: planes grown to several sizes.
func TestP12_2GrowByHand(t *testing.T) {
	p := of([]int{1, 2}, []int{3, 4})
	for _, c := range []struct {
		across, down bool
		w, h         int
		want         api.Plane
	}{
		{true, true, 4, 4, of([]int{1, 1, 2, 2}, []int{1, 1, 2, 2}, []int{3, 3, 4, 4}, []int{3, 3, 4, 4})},
		{true, true, 3, 3, of([]int{1, 1, 2}, []int{1, 1, 2}, []int{3, 3, 4})},
		{true, true, 1, 1, of([]int{1})},
		{true, true, 6, 5, of([]int{1, 1, 2, 2, 2, 2}, []int{1, 1, 2, 2, 2, 2}, []int{3, 3, 4, 4, 4, 4}, []int{3, 3, 4, 4, 4, 4}, []int{3, 3, 4, 4, 4, 4})},
		{true, false, 4, 2, of([]int{1, 1, 2, 2}, []int{3, 3, 4, 4})},
		{true, false, 4, 4, of([]int{1, 1, 2, 2}, []int{3, 3, 4, 4}, []int{3, 3, 4, 4}, []int{3, 3, 4, 4})},
		{false, true, 2, 4, of([]int{1, 2}, []int{1, 2}, []int{3, 4}, []int{3, 4})},
		{false, true, 4, 3, of([]int{1, 2, 2, 2}, []int{1, 2, 2, 2}, []int{3, 4, 4, 4})},
		{false, false, 2, 2, p},
		{false, false, 1, 2, of([]int{1}, []int{3})},
		{false, false, 3, 3, of([]int{1, 2, 2}, []int{3, 4, 4}, []int{3, 4, 4})},
	} {
		if got, e := plane.Grow(p, c.across, c.down, c.w, c.h); !same(got, c.want) || e != api.OK {
			t.Error("Grow:", c, "is", got, e)
		}
	}
}

// TestP12_2Grow: small planes to all sizes up to more than three times theirs.
func TestP12_2Grow(t *testing.T) {
	roll := dice(37)
	for _, size := range [][2]int{{1, 1}, {2, 1}, {1, 2}, {3, 2}, {2, 5}, {4, 4}, {7, 3}} {
		p := random(size[0], size[1], &roll)
		for w := 1; w <= 3*p.W+2; w++ {
			for h := 1; h <= 3*p.H+2; h++ {
				checkGrow(t, p, w, h)
			}
		}
	}
}

// TestP12_2GrowBounds: the least and the greatest planes to the least and the
// greatest sizes.
func TestP12_2GrowBounds(t *testing.T) {
	roll := dice(41)
	for _, w := range []int{1, 2, 63, 64, 65, 127, 128} {
		for _, h := range []int{1, 2, 63, 64, 65, 127, 128} {
			p := random(w, h, &roll)
			checkGrow(t, p, 128, 128)
			checkGrow(t, p, 1, 128)
			checkGrow(t, p, 128, 1)
			checkGrow(t, p, 1, 1)
			checkGrow(t, p, w, h)
			checkGrow(t, p, 1+roll.below(128), 1+roll.below(128))
		}
	}
}

// checkGrowRefused tells unless Grow returns an error and nothing else.
func checkGrowRefused(t *testing.T, p api.Plane, w, h int, want api.Errno) {
	t.Helper()
	ways(func(across, down bool) {
		if got, e := plane.Grow(p, across, down, w, h); !none(got) || e != want {
			t.Error("Grow:", p.W, p.H, len(p.S), across, down, w, h, "is", got.W, got.H, len(got.S), e)
		}
	})
}

// TestP12_2GrowRange: sizes that no plane has.
func TestP12_2GrowRange(t *testing.T) {
	roll := dice(43)
	for _, size := range [][2]int{{1, 1}, {5, 3}, {128, 128}} {
		p := random(size[0], size[1], &roll)
		for _, out := range beyond {
			checkGrowRefused(t, p, out, 1, api.ErrRange)
			checkGrowRefused(t, p, 1, out, api.ErrRange)
			checkGrowRefused(t, p, out, 128, api.ErrRange)
			checkGrowRefused(t, p, 128, out, api.ErrRange)
			checkGrowRefused(t, p, out, out, api.ErrRange)
		}
	}
}

// TestP12_2GrowBroken: planes that are not valid, whatever is asked of them.
func TestP12_2GrowBroken(t *testing.T) {
	for _, p := range broken() {
		for _, size := range [][2]int{{1, 1}, {128, 128}, {p.W, p.H}, {0, 0}, {0, 1}, {1, 129}, {-1, 5}, {math.MaxInt, math.MinInt}} {
			checkGrowRefused(t, p, size[0], size[1], api.ErrArg)
		}
	}
}

// checkCut holds Cut against the document.
func checkCut(t *testing.T, p api.Plane) {
	t.Helper()
	if got, e := plane.Cut(p); !slices.Equal(got, wantedBlocks(p)) || e != api.OK {
		t.Error("Cut:", p.W, p.H, "is", len(got), "blocks,", e)
	}
}

// TestP12_3CutByHand: one sample, and a plane of two blocks and of four.
func TestP12_3CutByHand(t *testing.T) {
	for sample, want := range map[int]int{0: -128, 1: -127, 127: -1, 128: 0, 129: 1, 255: 127} {
		got, e := plane.Cut(of([]int{sample}))
		if len(got) != 1 || got[0] != filled(want) || e != api.OK {
			t.Error("Cut:", sample, "is", got, e)
		}
	}
	nine := of([]int{128, 129, 130, 131, 132, 133, 134, 135, 136})
	row := api.Block{0, 1, 2, 3, 4, 5, 6, 7}
	for i := range row {
		row[i] = row[i%8]
	}
	if got, e := plane.Cut(nine); !slices.Equal(got, []api.Block{row, filled(8)}) || e != api.OK {
		t.Error("Cut:", got, e)
	}
	nine.W, nine.H = 1, 9
	var column api.Block
	for i := range column {
		column[i] = i / 8
	}
	if got, e := plane.Cut(nine); !slices.Equal(got, []api.Block{column, filled(8)}) || e != api.OK {
		t.Error("Cut:", got, e)
	}
	four := random(16, 16, new(dice))
	for i := range four.S {
		four.S[i] = 100*(i/128) + 10*(i/8%2) + 128
		if i >= 128 {
			four.S[i] -= 200
		}
	}
	if got, e := plane.Cut(four); !slices.Equal(got, []api.Block{filled(0), filled(10), filled(-100), filled(-90)}) || e != api.OK {
		t.Error("Cut:", got, e)
	}
}

// TestP12_3Cut: planes of many sizes.
func TestP12_3Cut(t *testing.T) {
	roll := dice(47)
	for _, w := range sizes {
		for _, h := range sizes {
			checkCut(t, random(w, h, &roll))
		}
	}
}

// TestP12_3CutBroken: planes that are not valid.
func TestP12_3CutBroken(t *testing.T) {
	for _, p := range broken() {
		if got, e := plane.Cut(p); len(got) != 0 || e != api.ErrArg {
			t.Error("Cut:", p.W, p.H, len(p.S), "is", len(got), "blocks,", e)
		}
	}
}

// checkJoin holds Join against the document.
func checkJoin(t *testing.T, l []api.Block, w, h int) {
	t.Helper()
	if got, e := plane.Join(l, w, h); !same(got, wantedJoined(l, w, h)) || e != api.OK {
		t.Error("Join:", len(l), w, h, "is", got.W, got.H, e)
	}
}

// TestP12_3JoinLimits: every number about the bounds, and numbers far beyond,
// alone and at each place of a block.
func TestP12_3JoinLimits(t *testing.T) {
	for n, want := range map[int]int{
		-129: 0, -128: 0, -127: 1, -1: 127, 0: 128, 1: 129, 126: 254, 127: 255, 128: 255, 129: 255, 255: 255, 256: 255, -255: 0, -256: 0, -257: 0, -384: 0, 383: 255, 384: 255,
		1 << 16: 255, -1 << 16: 0, 1 << 31: 255, -1 << 31: 0, 1 << 32: 255, -1 << 32: 0, 1<<32 - 128: 255, -1<<32 + 1: 0,
		math.MaxInt: 255, math.MaxInt - 127: 255, math.MaxInt - 128: 255, math.MinInt: 0, math.MinInt + 127: 0, math.MinInt + 128: 0,
	} {
		if got, e := plane.Join([]api.Block{filled(n)}, 1, 1); !same(got, of([]int{want})) || e != api.OK {
			t.Error("Join:", n, "is", got, e)
		}
		for at := range 64 {
			b := filled(-5)
			b[at] = n
			whole := slices.Repeat([]int{123}, 64)
			whole[at] = want
			if got, e := plane.Join([]api.Block{b}, 8, 8); !same(got, api.Plane{W: 8, H: 8, S: whole}) || e != api.OK {
				t.Error("Join:", n, "at", at, "is", got, e)
			}
		}
	}
	for n := -1200; n <= 1200; n++ {
		if got, e := plane.Join([]api.Block{{n}}, 1, 1); !same(got, of([]int{limited(n)})) || e != api.OK {
			t.Error("Join:", n, "is", got, e)
		}
	}
}

// TestP12_3JoinByHand: blocks beside and below each other, and only the part of
// them that the plane has.
func TestP12_3JoinByHand(t *testing.T) {
	row := []int{1, 1, 1, 1, 1, 1, 1, 1, 2}
	l := []api.Block{filled(-127), filled(-126)}
	if got, e := plane.Join(l, 9, 2); !same(got, of(row, row)) || e != api.OK {
		t.Error("Join:", got, e)
	}
	if got, e := plane.Join(l, 1, 9); !same(got, api.Plane{W: 1, H: 9, S: row}) || e != api.OK {
		t.Error("Join:", got, e)
	}
	l = append(l, filled(-125), filled(-124))
	below := []int{3, 3, 3, 3, 3, 3, 3, 3, 4}
	if got, e := plane.Join(l, 9, 9); !same(got, of(row, row, row, row, row, row, row, row, below)) || e != api.OK {
		t.Error("Join:", got, e)
	}
	var count api.Block
	for i := range count {
		count[i] = i - 128
	}
	if got, e := plane.Join([]api.Block{count}, 3, 2); !same(got, of([]int{0, 1, 2}, []int{8, 9, 10})) || e != api.OK {
		t.Error("Join:", got, e)
	}
}

// TestP12_3Join: blocks of numbers within the bounds and beyond, as planes of
// many sizes.
func TestP12_3Join(t *testing.T) {
	roll := dice(53)
	for _, w := range sizes {
		for _, h := range sizes {
			bound := []int{127, 300, 1 << 20, 1 << 30}[roll.below(4)]
			checkJoin(t, blocks(count(w, h), -bound-1, bound, &roll), w, h)
		}
	}
}

// checkJoinRefused tells unless Join returns an error and nothing else.
func checkJoinRefused(t *testing.T, l []api.Block, w, h int, want api.Errno) {
	t.Helper()
	if got, e := plane.Join(l, w, h); !none(got) || e != want {
		t.Error("Join:", len(l), w, h, "is", got.W, got.H, len(got.S), e)
	}
}

// TestP12_3JoinCount: one block too few, one too many, none, and as many as a
// plane turned, or with one more column or row, needs.
func TestP12_3JoinCount(t *testing.T) {
	all := make([]api.Block, 600)
	for _, w := range sizes {
		for _, h := range sizes {
			need := count(w, h)
			for _, have := range []int{0, 1, need - 8, need - 2, need - 1, need + 1, need + 2, need + 8, 2 * need, 256, 257, up(w) / 8, up(h) / 8, (w / 8) * (h / 8), (w/8 + 1) * (h/8 + 1), w * h} {
				if have >= 0 && have <= len(all) && have != need {
					checkJoinRefused(t, all[:have], w, h, api.ErrArg)
				}
			}
			checkJoinRefused(t, nil, w, h, api.ErrArg)
			checkJoinRefused(t, []api.Block{}, w, h, api.ErrArg)
			if got, e := plane.Join(all[:need], w, h); got.W != w || got.H != h || e != api.OK {
				t.Error("Join:", need, w, h, "is", got.W, got.H, e)
			}
		}
	}
}

// TestP12_3JoinRange: sizes that no plane has, whatever blocks there are.
func TestP12_3JoinRange(t *testing.T) {
	lists := [][]api.Block{nil, {}, make([]api.Block, 1), make([]api.Block, 2), make([]api.Block, 16), make([]api.Block, 17), make([]api.Block, 256), make([]api.Block, 272), make([]api.Block, 289)}
	for _, l := range lists {
		for _, out := range beyond {
			for _, other := range []int{1, 8, 9, 128, out, 0, -1, 129} {
				checkJoinRefused(t, l, out, other, api.ErrRange)
				checkJoinRefused(t, l, other, out, api.ErrRange)
			}
		}
	}
}

// TestP12_4CutJoin: planes of many sizes, cut and joined.
func TestP12_4CutJoin(t *testing.T) {
	roll := dice(59)
	for w := 1; w <= 128; w++ {
		for _, h := range []int{1, 2, 7, 8, 9, 1 + roll.below(128), 128} {
			for _, p := range []api.Plane{random(w, h, &roll), random(h, w, &roll)} {
				l, e := plane.Cut(p)
				if got, f := plane.Join(l, p.W, p.H); !same(got, p) || e != api.OK || f != api.OK {
					t.Error("Join of Cut:", p.W, p.H, e, f)
				}
			}
		}
	}
}

// TestP12_4GrowHalve: planes of all sizes that can be doubled, grown and halved.
func TestP12_4GrowHalve(t *testing.T) {
	roll := dice(61)
	for w := 1; w <= 64; w++ {
		for h := 1; h <= 64; h++ {
			p := random(w, h, &roll)
			grown, e := plane.Grow(p, true, true, 2*w, 2*h)
			if got, f := plane.Halve(grown, true, true); !same(got, p) || e != api.OK || f != api.OK {
				t.Error("Halve of Grow:", w, h, e, f)
			}
		}
	}
}

// TestP12_4Samples: every sample comes back, both ways.
func TestP12_4Samples(t *testing.T) {
	p := api.Plane{W: 16, H: 16}
	for n := range 256 {
		p.S = append(p.S, n)
	}
	l, _ := plane.Cut(p)
	if got, e := plane.Join(l, 16, 16); !same(got, p) || e != api.OK {
		t.Error("Join of Cut:", got, e)
	}
	grown, _ := plane.Grow(p, true, true, 32, 32)
	if got, e := plane.Halve(grown, true, true); !same(got, p) || e != api.OK {
		t.Error("Halve of Grow:", got, e)
	}
}

// calls is each call that tells a plane of a plane.
var calls = []func(p api.Plane) (api.Plane, api.Errno){
	func(p api.Plane) (api.Plane, api.Errno) { return plane.Crop(p, 0, 0, p.W, p.H) },
	func(p api.Plane) (api.Plane, api.Errno) { return plane.Crop(p, 1, 1, 20, 3) },
	func(p api.Plane) (api.Plane, api.Errno) { return plane.Crop(p, 0, 1, 129, 3) },
	func(p api.Plane) (api.Plane, api.Errno) { return plane.Halve(p, false, false) },
	func(p api.Plane) (api.Plane, api.Errno) { return plane.Halve(p, true, false) },
	func(p api.Plane) (api.Plane, api.Errno) { return plane.Halve(p, false, true) },
	func(p api.Plane) (api.Plane, api.Errno) { return plane.Halve(p, true, true) },
	func(p api.Plane) (api.Plane, api.Errno) { return plane.Grow(p, false, false, p.W, p.H) },
	func(p api.Plane) (api.Plane, api.Errno) { return plane.Grow(p, false, false, p.W, 1) },
	func(p api.Plane) (api.Plane, api.Errno) { return plane.Grow(p, true, true, 2*p.W, 2*p.H) },
	func(p api.Plane) (api.Plane, api.Errno) { return plane.Grow(p, true, false, 0, 5) },
	func(p api.Plane) (api.Plane, api.Errno) {
		l, e := plane.Cut(p)
		if e != api.OK {
			return api.Plane{}, e
		}
		return plane.Join(l, p.W, p.H)
	},
}

// TestKept: what the calls are given stays as it was, and behind its end too.
func TestKept(t *testing.T) {
	roll := dice(67)
	for i, call := range calls {
		for _, bad := range []bool{false, true} {
			whole := random(17, 13, &roll)
			if bad {
				whole.S[8*17+16] = 256
			}
			given := slices.Clone(whole.S)
			p := api.Plane{W: 17, H: 9, S: whole.S[:17*9]}
			call(p)
			plane.Right(p)
			plane.At(p, -1, 99)
			if !slices.Equal(whole.S, given) {
				t.Error("call", i, "changed the plane")
			}
		}
	}
}

// TestJoinKept: what Join is given stays as it was, and behind its end too.
func TestJoinKept(t *testing.T) {
	roll := dice(71)
	whole := blocks(9, -500, 500, &roll)
	given := slices.Clone(whole)
	if _, e := plane.Join(whole[:6], 17, 9); e != api.OK {
		t.Error("Join:", e)
	}
	if _, e := plane.Join(whole[:6], 17, 17); e != api.ErrArg {
		t.Error("Join:", e)
	}
	if !slices.Equal(whole, given) {
		t.Error("Join changed the blocks")
	}
}

// TestNew: what the calls tell may be written over, up to its capacity, and what
// they were given too.
func TestNew(t *testing.T) {
	roll := dice(73)
	for i, call := range calls {
		p := random(17, 9, &roll)
		given := copied(p)
		first, e := call(p)
		want := copied(first)
		second, _ := call(p)
		overwrite(first.S, 99)
		if !same(p, given) || !same(second, want) {
			t.Error("call", i, "shares memory")
		}
		overwrite(p.S, 77)
		if !same(second, want) {
			t.Error("call", i, "shares memory with what was given")
		}
		if third, f := call(given); !same(third, want) || e != f {
			t.Error("call", i, "tells something else the next time")
		}
		if cap(second.S) != len(second.S) {
			t.Error("call", i, "leaves spare capacity")
		}
	}
}

// overwrite puts a number in all places of a list, up to its capacity.
func overwrite(s []int, n int) {
	s = s[:cap(s)]
	for i := range s {
		s[i] = n
	}
}

// TestCutNew: what Cut tells may be written over, up to its capacity, and what it
// was given too.
func TestCutNew(t *testing.T) {
	roll := dice(79)
	p := random(17, 9, &roll)
	given, want := copied(p), wantedBlocks(p)
	first, _ := plane.Cut(p)
	second, _ := plane.Cut(p)
	first = first[:cap(first)]
	for i := range first {
		first[i] = filled(9)
	}
	if !same(p, given) || !slices.Equal(second, want) {
		t.Error("Cut: shares memory")
	}
	overwrite(p.S, 7)
	if !slices.Equal(second, want) {
		t.Error("Cut: shares memory with what was given")
	}
	if third, e := plane.Cut(given); !slices.Equal(third, want) || e != api.OK {
		t.Error("Cut: tells something else the next time:", e)
	}
}

// TestJoinNew: what Join tells hangs on the blocks no more.
func TestJoinNew(t *testing.T) {
	roll := dice(83)
	l := blocks(6, -200, 200, &roll)
	want := wantedJoined(l, 17, 9)
	first, _ := plane.Join(l, 17, 9)
	second, _ := plane.Join(l, 17, 9)
	overwrite(first.S, 9)
	if !same(second, want) {
		t.Error("Join: two results share memory")
	}
	for i := range l {
		l[i] = api.Block{}
	}
	if !same(second, want) || cap(second.S) != len(second.S) {
		t.Error("Join: hangs on the blocks, or leaves spare capacity")
	}
}

// TestAlternating: calls of different planes in turn don't hang on each other.
func TestAlternating(t *testing.T) {
	roll := dice(89)
	for range 200 {
		p, q := random(1+roll.below(40), 1+roll.below(40), &roll), random(1+roll.below(40), 1+roll.below(40), &roll)
		checkHalve(t, p)
		checkCut(t, q)
		checkGrow(t, p, 1+roll.below(128), 1+roll.below(64))
		checkCrop(t, q, roll.below(50), roll.below(50), 1+roll.below(60), 1+roll.below(60))
		checkCut(t, p)
		checkJoin(t, blocks(count(q.W, q.H), -300, 300, &roll), q.W, q.H)
	}
}
