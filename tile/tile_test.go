package tile_test

import (
	"slices"
	"testing"

	"clerestory/api"
	"clerestory/tile"
)

// TestExample1: all pixels of None are 128, 128, 128.
func TestExample1(t *testing.T) {
	for _, g := range geometries() {
		pixels(t, "none", g, tile.None(g), plain(g, api.Pixel{R: 128, G: 128, B: 128}), api.OK)
	}
}

// rightOf holds Right against what it must tell.
func rightOf(t *testing.T, g api.Geometry, want bool) {
	t.Helper()
	if tile.Right(g) != want {
		t.Error("Right of", g, "is", !want)
	}
}

// TestP15_1Right: every field, at its bounds and beyond.
func TestP15_1Right(t *testing.T) {
	for _, g := range geometries() {
		rightOf(t, g, true)
	}
	for _, g := range notGeometries() {
		rightOf(t, g, false)
	}
	for _, g := range few() {
		for n := -40; n <= 200; n++ {
			w, h, side, kind, quality := g, g, g, g, g
			w.W, h.H, side.Tile, kind.Kind, quality.Quality = n, n, n, n, n
			rightOf(t, w, n >= 1 && n <= 128)
			rightOf(t, h, n >= 1 && n <= 128)
			rightOf(t, side, n == 16 || n == 32)
			rightOf(t, kind, n >= 0 && n <= 3)
			rightOf(t, quality, n >= 1 && n <= 100)
		}
	}
}

// TestP15_1Head: a square without restarts.
func TestP15_1Head(t *testing.T) {
	for _, g := range geometries() {
		if s := tile.Head(g); s != (api.Scan{W: g.Tile, H: g.Tile, Kind: g.Kind, Restart: 0}) {
			t.Error("Head of", g, "is", s)
		}
	}
	for _, g := range notGeometries() {
		if s := tile.Head(g); s != (api.Scan{}) {
			t.Error("Head of", g, "is", s)
		}
	}
}

// TestP15_1Steps: those of the quality, and some by hand.
func TestP15_1Steps(t *testing.T) {
	for _, g := range geometries() {
		if steps := tile.Steps(g); steps != [2]api.Block{stepsOf(g, 0), stepsOf(g, 1)} {
			t.Error("Steps of", g, "are", steps)
		}
	}
	for _, g := range notGeometries() {
		if steps := tile.Steps(g); steps != [2]api.Block{} {
			t.Error("Steps of", g, "are", steps)
		}
	}
	for _, c := range []struct{ quality, first, last, firstTint, lastTint int }{
		{1, 255, 255, 255, 255}, {50, 16, 99, 17, 99}, {75, 8, 50, 9, 50}, {100, 1, 1, 1, 1},
	} {
		for _, g := range few() {
			g.Quality = c.quality
			if steps := tile.Steps(g); steps[0][0] != c.first || steps[0][63] != c.last || steps[1][0] != c.firstTint || steps[1][63] != c.lastTint {
				t.Error("Steps of", g, "are", steps)
			}
		}
	}
}

// TestP15_1None: blocks of zeros, as many as there must be.
func TestP15_1None(t *testing.T) {
	for kind, counts := range [][2][]int{
		api.Grey:  {{4}, {16}},
		api.Full:  {{4, 4, 4}, {16, 16, 16}},
		api.Wide:  {{4, 2, 2}, {16, 8, 8}},
		api.Small: {{4, 1, 1}, {16, 4, 4}},
	} {
		for i, side := range []int{16, 32} {
			g := api.Geometry{W: 9, H: 99, Tile: side, Kind: kind, Quality: 7}
			var want api.Tile
			for _, n := range counts[i] {
				want.Parts = append(want.Parts, make([]api.Block, n))
			}
			if none := tile.None(g); !sameTile(none, want) {
				t.Error("None of", g, "is", none)
			}
		}
	}
	for _, g := range notGeometries() {
		if none := tile.None(g); len(none.Parts) != 0 {
			t.Error("None of", g, "is", none)
		}
	}
}

// firsts is a geometry's tile whose blocks have one number each, at index 0: the
// same one in all blocks of a component.
func firsts(g api.Geometry, numbers ...int) api.Tile {
	t := zeros(g)
	for part := range t.Parts {
		for i := range t.Parts[part] {
			t.Parts[part][i][0] = numbers[part]
		}
	}
	return t
}

// TestP15_2ByHand: a tile of one colour. Red is the tone 76, 85, 255, which is
// -52, -43 and 127 from the middle; 8 times that by the steps 16, 17 and 17 is
// -26, -20 and 60. Back come 76, 86 and 255.
func TestP15_2ByHand(t *testing.T) {
	for _, g := range few() {
		g.Quality = 50
		told := firsts(g, -26, -20, 60)
		from(t, "red", g, plain(g, api.Pixel{R: 255}), told, api.OK)
		if g.Kind == api.Grey {
			pixels(t, "grey", g, told, plain(g, api.Pixel{R: 76, G: 76, B: 76}), api.OK)
		} else {
			pixels(t, "red", g, told, plain(g, api.Pixel{R: 254, G: 0, B: 2}), api.OK)
		}
		// 255 is 127 from the middle, and 8 times that by 16 is 63.5: a half.
		from(t, "white", g, plain(g, api.Pixel{R: 255, G: 255, B: 255}), firsts(g, 64, 0, 0), api.OK)
		from(t, "black", g, plain(g, api.Pixel{}), firsts(g, -64, 0, 0), api.OK)
		from(t, "grey", g, plain(g, api.Pixel{R: 128, G: 128, B: 128}), firsts(g, 0, 0, 0), api.OK)
	}
}

// TestP15_2MeansByHand: red and blue in turns. Their tints are 85, 255 and 255,
// 107.
func TestP15_2MeansByHand(t *testing.T) {
	red, blue := api.Pixel{R: 255}, api.Pixel{B: 255}
	for _, c := range []struct {
		what          string
		kind          int
		cell          [4]api.Pixel // two across, two down
		toBlue, toRed int
	}{
		// The means are 170 and 181: 42 and 53 from the middle, 8 times that by 17.
		{"columns, halved across", api.Wide, [4]api.Pixel{red, blue, red, blue}, 20, 25},
		{"columns, halved across and down", api.Small, [4]api.Pixel{red, blue, red, blue}, 20, 25},
		{"rows, halved across and down", api.Small, [4]api.Pixel{red, red, blue, blue}, 20, 25},
		{"like a chessboard, halved across", api.Wide, [4]api.Pixel{red, blue, blue, red}, 20, 25},
		// 127.5, which is 128, and 218: 90 from the middle.
		{"one of four", api.Small, [4]api.Pixel{red, red, red, blue}, 0, 42},
		// 212.5, which is 213, and 144: 85 and 16 from the middle.
		{"three of four", api.Small, [4]api.Pixel{blue, red, blue, blue}, 40, 8},
	} {
		for _, side := range []int{16, 32} {
			g := api.Geometry{W: 50, H: 50, Tile: side, Kind: c.kind, Quality: 50}
			var l []api.Pixel
			for i := range side * side {
				l = append(l, c.cell[i%side%2+i/side%2*2])
			}
			want := firsts(g, 0, c.toBlue, c.toRed)
			out, e := tile.From(g, l)
			if e != api.OK || len(out.Parts) != 3 || !slices.Equal(out.Parts[1], want.Parts[1]) || !slices.Equal(out.Parts[2], want.Parts[2]) {
				t.Error(c.what, out, e)
			}
		}
	}
}

// covered is how many pixels across and down a block of a component covers.
func covered(kind, part int) (int, int) {
	if part == 0 || kind == api.Full {
		return 8, 8
	}
	if kind == api.Wide {
		return 16, 8
	}
	return 16, 16
}

// TestP15_2Places: a single block that is not zeros, and the pixels that it
// covers, which differ in brightness or in one tint by 32 or 34.
func TestP15_2Places(t *testing.T) {
	other := [3]api.Pixel{{R: 160, G: 160, B: 160}, {R: 128, G: 116, B: 188}, {R: 176, G: 104, B: 128}}
	for _, g := range few() {
		g.Quality = 50
		for part, size := range shapeOf(g) {
			w, h := covered(g.Kind, part)
			for at := range size[0] * size[1] {
				told := zeros(g)
				told.Parts[part][at][0] = 16
				l := plain(g, api.Pixel{R: 128, G: 128, B: 128})
				for i := range l {
					if i%g.Tile/w == at%size[0] && i/g.Tile/h == at/size[0] {
						l[i] = other[part]
					}
				}
				from(t, "one block", g, l, told, api.OK)
				pixels(t, "one block", g, told, l, api.OK)
			}
		}
	}
}

// TestP15_2From: step by step by the layers below, and sample by sample.
func TestP15_2From(t *testing.T) {
	roll := dice(1)
	for _, g := range geometries() {
		for _, l := range pixelsOf(g, &roll) {
			want := wantedTile(t, g, l)
			from(t, "from", g, l, want, api.OK)
			if !sameTile(sampledTile(g, l), want) {
				t.Error("the tests do not agree", g)
			}
		}
	}
}

// TestP15_2Pixels: step by step by the layers below, and sample by sample.
func TestP15_2Pixels(t *testing.T) {
	roll := dice(2)
	for _, g := range geometries() {
		for _, in := range tilesOf(g, &roll) {
			want := wantedPixels(t, g, in)
			pixels(t, "pixels", g, in, want, api.OK)
			if !slices.Equal(sampledPixels(g, in), want) {
				t.Error("the tests do not agree", g)
			}
		}
	}
}

// TestP15_2EveryQuality: each has steps of its own, both ways.
func TestP15_2EveryQuality(t *testing.T) {
	roll := dice(3)
	for quality := 1; quality <= 100; quality++ {
		g := api.Geometry{W: 20, H: 30, Tile: 16, Kind: quality % 4, Quality: quality}
		l, in := drawPixels(g, 256, &roll), drawTile(g, 3, 40, &roll)
		from(t, "from", g, l, wantedTile(t, g, l), api.OK)
		pixels(t, "pixels", g, in, wantedPixels(t, g, in), api.OK)
	}
}

// TestP15_2OtherFields: a tile does not hang on the size of the image, or on the
// kind of file.
func TestP15_2OtherFields(t *testing.T) {
	roll := dice(4)
	for _, g := range few() {
		l := drawPixels(g, 256, &roll)
		told := wantedTile(t, g, l)
		shown := wantedPixels(t, g, told)
		for _, size := range [][2]int{{1, 1}, {128, 128}, {g.Tile, g.Tile}, {g.Tile + 1, 3}} {
			g.W, g.H, g.Big = size[0], size[1], !g.Big
			from(t, "another size", g, l, told, api.OK)
			pixels(t, "another size", g, told, shown, api.OK)
		}
	}
}

// TestP15_2Near: pixels that change little by little come back nearly as they
// were at the best quality, where tints change slowly, too.
func TestP15_2Near(t *testing.T) {
	for _, g := range few() {
		g.Quality = 100
		l := smooth(g)
		if g.Kind == api.Grey {
			for i, p := range l {
				l[i] = api.Pixel{R: p.R, G: p.R, B: p.R}
			}
		}
		told, e := tile.From(g, l)
		if e != api.OK {
			t.Fatal("From:", e)
		}
		back, e := tile.Pixels(g, told)
		if e != api.OK || len(back) != len(l) {
			t.Fatal("Pixels:", e)
		}
		for i, p := range back {
			if q := l[i]; max(p.R-q.R, q.R-p.R, p.G-q.G, q.G-p.G, p.B-q.B, q.B-p.B) > 8 {
				t.Error(g, "at", i, "is", p, "not near", q)
			}
		}
	}
}

// TestP15_2TooFewOrMany: as many pixels as a tile has, no more and no fewer.
func TestP15_2TooFewOrMany(t *testing.T) {
	for _, g := range few() {
		n := g.Tile * g.Tile
		for _, count := range []int{0, 1, g.Tile, n / 4, n - g.Tile, n - 1, n + 1, n + g.Tile, 2 * n, 4 * n} {
			l := make([]api.Pixel, count)
			from(t, "another number", g, l, api.Tile{}, api.ErrArg)
			if count > 0 {
				l[count-1].G = 256
				from(t, "another number, and no colour", g, l, api.Tile{}, api.ErrArg)
			}
		}
		from(t, "nil", g, nil, api.Tile{}, api.ErrArg)
	}
}

// TestP15_2NoColours: in the first, the last and another place, in each part.
func TestP15_2NoColours(t *testing.T) {
	roll := dice(5)
	for _, g := range few() {
		for _, at := range []int{0, 1 + roll.below(g.Tile*g.Tile-2), g.Tile*g.Tile - 1} {
			for _, n := range append([]int{-1, 256}, outside...) {
				for part := range 3 {
					l := drawPixels(g, 256, &roll)
					*[]*int{&l[at].R, &l[at].G, &l[at].B}[part] = n
					from(t, "no colour", g, l, api.Tile{}, api.ErrRange)
				}
			}
			for _, n := range []int{0, 255} {
				l := drawPixels(g, 256, &roll)
				l[at] = api.Pixel{R: n, G: 255 - n, B: n}
				from(t, "a colour", g, l, wantedTile(t, g, l), api.OK)
			}
		}
	}
}

// TestP15_2TilesThatAreNot: tiles of another shape, and with blocks that are not
// valid.
func TestP15_2TilesThatAreNot(t *testing.T) {
	roll := dice(6)
	for _, g := range few() {
		good := drawTile(g, 4, 30, &roll)
		for _, bad := range notTiles(good) {
			pixels(t, "no tile", g, bad, nil, api.ErrArg)
		}
		for _, other := range few() {
			if !slices.Equal(shapeOf(other), shapeOf(g)) {
				pixels(t, "of another geometry", other, good, nil, api.ErrArg)
			}
		}
	}
}

// TestP15_2NoGeometry: whatever the pixels and the tile are.
func TestP15_2NoGeometry(t *testing.T) {
	for _, g := range notGeometries() {
		for _, other := range few() {
			l := plain(other, api.Pixel{R: 9})
			from(t, "no geometry", g, l, api.Tile{}, api.ErrArg)
			pixels(t, "no geometry", g, zeros(other), nil, api.ErrArg)
			l[0].R = -1
			from(t, "no geometry and no colour", g, l, api.Tile{}, api.ErrArg)
		}
		from(t, "no geometry and no pixels", g, nil, api.Tile{}, api.ErrArg)
		pixels(t, "no geometry and no tile", g, api.Tile{}, nil, api.ErrArg)
	}
}

// TestP15_3Places: a single block of four tiles that is not zeros, and the one
// block that it has a part in. Its 40 at index 0 comes as a quarter, and with
// it the waves over two blocks, whose signs tell which of the four it was.
func TestP15_3Places(t *testing.T) {
	for _, g := range few() {
		g.Quality = 50
		for i := range 4 {
			for part, size := range shapeOf(g) {
				for at := range size[0] * size[1] {
					var four [4]api.Tile
					for k := range four {
						four[k] = zeros(g)
					}
					four[i].Parts[part][at][0] = 40
					x, y := i%2*size[0]+at%size[0], i/2*size[1]+at/size[0]
					out, e := tile.Reduce(g, four)
					if e != api.OK {
						t.Fatal("Reduce:", e)
					}
					b := out.Parts[part][y/2*size[0]+x/2]
					if b[0] != 10 || b[1] > 0 != (x%2 == 0) || b[8] > 0 != (y%2 == 0) || b[1] == 0 || b[8] == 0 {
						t.Error(g, "block", at, "of component", part, "of tile", i, "is made", b)
					}
					out.Parts[part][y/2*size[0]+x/2] = api.Block{}
					if !sameTile(out, zeros(g)) {
						t.Error(g, "block", at, "of component", part, "of tile", i, "has a part in another block")
					}
				}
			}
		}
	}
}

// TestP15_3ByHand: four tiles of one colour each.
func TestP15_3ByHand(t *testing.T) {
	g := api.Geometry{W: 64, H: 64, Tile: 16, Kind: api.Small, Quality: 50}
	tint := func(n int) api.Tile { return firsts(g, n, n, 0) }
	want := zeros(g)
	for i, n := range []int{10, -10, 10, -10} {
		want.Parts[0][i][0] = n
	}
	// Across, 10 and -10 are told by 17: 4 times 170 is 680, and comes as 154,
	// -54, 36 and -31 at the places 1, 3, 5 and 7, by 18, 47, 99 and 99.
	want.Parts[1][0][1], want.Parts[1][0][3] = 9, -1
	reduced(t, "left and right", g, [4]api.Tile{tint(10), tint(-10), tint(10), tint(-10)}, want, api.OK)
	// Down, the same at the places 8, 24, 40 and 56.
	want = zeros(g)
	for i, n := range []int{10, 10, -10, -10} {
		want.Parts[0][i][0] = n
	}
	want.Parts[1][0][8], want.Parts[1][0][24] = 9, -1
	reduced(t, "above and below", g, [4]api.Tile{tint(10), tint(10), tint(-10), tint(-10)}, want, api.OK)
	// A tile of 2 by 2 blocks, or of 4 by 4, comes as a quarter of it.
	g = api.Geometry{W: 64, H: 64, Tile: 32, Quality: 50}
	want = zeros(g)
	for i := range want.Parts[0] {
		want.Parts[0][i][0] = 5 + i%4/2 + i/8*2
	}
	reduced(t, "quarters", g, [4]api.Tile{firsts(g, 5), firsts(g, 6), firsts(g, 7), firsts(g, 8)}, want, api.OK)
}

// TestP15_3Reduce: of tiles of all kinds.
func TestP15_3Reduce(t *testing.T) {
	roll := dice(7)
	for _, g := range geometries() {
		l := tilesOf(g, &roll)
		for range 8 {
			var four [4]api.Tile
			for i := range four {
				four[i] = l[roll.below(len(l))]
			}
			reduced(t, "reduce", g, four, wantedReduced(t, g, four), api.OK)
		}
		four := [4]api.Tile(l[4:])
		reduced(t, "reduce", g, four, wantedReduced(t, g, four), api.OK)
		reduced(t, "the same four times", g, [4]api.Tile{l[4], l[4], l[4], l[4]}, wantedReduced(t, g, [4]api.Tile{l[4], l[4], l[4], l[4]}), api.OK)
	}
}

// TestP15_3Half: what is made of four is like the image at half its size.
func TestP15_3Half(t *testing.T) {
	for _, g := range few() {
		g.Quality = 100
		n := g.Tile
		image := func(x, y int) api.Pixel { return api.Pixel{R: 40 + 2*x, G: 180 - 2*y, B: 60 + x + y} }
		var four [4]api.Tile
		for i := range four {
			var l []api.Pixel
			for k := range n * n {
				l = append(l, image(i%2*n+k%n, i/2*n+k/n))
			}
			told, e := tile.From(g, l)
			if e != api.OK {
				t.Fatal("From:", e)
			}
			four[i] = told
		}
		out, e := tile.Reduce(g, four)
		if e != api.OK {
			t.Fatal("Reduce:", e)
		}
		l, e := tile.Pixels(g, out)
		if e != api.OK {
			t.Fatal("Pixels:", e)
		}
		for k, p := range l {
			q := image(2*(k%n), 2*(k/n))
			if g.Kind == api.Grey {
				tone := toneParts(q)
				q = api.Pixel{R: tone[0], G: tone[0], B: tone[0]}
			}
			if max(p.R-q.R, q.R-p.R, p.G-q.G, q.G-p.G, p.B-q.B, q.B-p.B) > 10 {
				t.Error(g, "at", k, "is", p, "not near", q)
			}
		}
	}
}

// TestP15_3TilesThatAreNot: in each of the four places.
func TestP15_3TilesThatAreNot(t *testing.T) {
	roll := dice(8)
	for _, g := range few() {
		good := drawTile(g, 4, 30, &roll)
		for _, bad := range notTiles(good) {
			for i := range 4 {
				four := [4]api.Tile{good, good, good, good}
				four[i] = bad
				reduced(t, "no tile", g, four, api.Tile{}, api.ErrArg)
			}
			reduced(t, "no tiles", g, [4]api.Tile{bad, bad, bad, bad}, api.Tile{}, api.ErrArg)
		}
		for _, other := range few() {
			if !slices.Equal(shapeOf(other), shapeOf(g)) {
				reduced(t, "of another geometry", g, [4]api.Tile{good, good, good, zeros(other)}, api.Tile{}, api.ErrArg)
				reduced(t, "of another geometry", other, [4]api.Tile{good, good, good, good}, api.Tile{}, api.ErrArg)
			}
		}
	}
}

// TestP15_3NoGeometry: whatever the tiles are.
func TestP15_3NoGeometry(t *testing.T) {
	for _, g := range notGeometries() {
		for _, other := range few() {
			z := zeros(other)
			reduced(t, "no geometry", g, [4]api.Tile{z, z, z, z}, api.Tile{}, api.ErrArg)
		}
		reduced(t, "no geometry and no tiles", g, [4]api.Tile{}, api.Tile{}, api.ErrArg)
	}
}

// TestP15_5: of tiles of each kind, by tables that suit them, and by others.
func TestP15_5(t *testing.T) {
	roll := dice(9)
	for _, g := range geometries() {
		l := append(tilesOf(g, &roll), wantedTile(t, g, drawPixels(g, 256, &roll)), wantedTile(t, g, smooth(g)))
		for _, in := range l {
			for _, tables := range []api.Tables{enough(g, &roll), tuned(t, g, in), tuned(t, g, l...)} {
				b, e := tile.Stream(g, tables, in)
				if e != api.OK {
					t.Fatal("Stream:", e)
				}
				opens(t, "there and back", g, tablesOf(t, tables, true), b, in, api.OK)
				if g.Kind == api.Grey {
					opens(t, "without tables of colour", g, tablesOf(t, tables, false), b, in, api.OK)
				}
			}
		}
	}
}

// TestP15_6: four tiles of zeros, and their pixels.
func TestP15_6(t *testing.T) {
	for _, g := range geometries() {
		z := zeros(g)
		reduced(t, "zeros", g, [4]api.Tile{z, z, z, z}, z, api.OK)
		reduced(t, "none", g, [4]api.Tile{tile.None(g), tile.None(g), tile.None(g), tile.None(g)}, tile.None(g), api.OK)
		pixels(t, "zeros", g, z, plain(g, api.Pixel{R: 128, G: 128, B: 128}), api.OK)
	}
}

// roomy is a list with room behind it.
func roomy[T any](l []T) []T {
	var other T
	out := append(slices.Clone(l), other, other, other, other)
	return out[:len(l)]
}

// roomyTile is a tile with room behind its parts, and behind their blocks.
func roomyTile(t api.Tile) (c api.Tile) {
	for _, part := range t.Parts {
		c.Parts = append(c.Parts, roomy(part))
	}
	c.Parts = roomy(c.Parts)
	return c
}

// roomyTables is tables with room behind their values.
func roomyTables(t api.Tables) api.Tables {
	for i := range 2 {
		t.DC[i].Vals, t.AC[i].Vals = roomy(t.DC[i].Vals), roomy(t.AC[i].Vals)
	}
	return t
}

// beyond is a list up to its capacity, in memory of its own.
func beyond[T any](l []T) []T { return slices.Clone(l[:cap(l)]) }

// keptTile is what a tile's lists hold, up to their capacity.
func keptTile(t api.Tile) (l [][]api.Block) {
	for _, part := range t.Parts[:cap(t.Parts)] {
		l = append(l, beyond(part))
	}
	return l
}

// keptTables is what the lists of tables hold, up to their capacity.
func keptTables(t api.Tables) (l [][]int) {
	for i := range 2 {
		l = append(l, beyond(t.DC[i].Vals), beyond(t.AC[i].Vals))
	}
	return l
}

// sameLists tells whether lists of lists are the same.
func sameLists[T comparable](a, b [][]T) bool {
	return slices.EqualFunc(a, b, func(c, d []T) bool { return slices.Equal(c, d) })
}

// TestKept: what the calls are given stays as it was, and behind its end too,
// whether they tell a result or an error.
func TestKept(t *testing.T) {
	roll := dice(10)
	for _, g := range few() {
		l, noColours := roomy(drawPixels(g, 256, &roll)), roomy(drawPixels(g, 256, &roll))
		noColours[7].G = -1
		in, tables := roomyTile(drawTile(g, 5, 90, &roll)), roomyTables(enough(g, &roll))
		bad := roomyTile(copiedTile(in))
		bad.Parts[len(bad.Parts)-1][0][5] = 5000
		b, e := tile.Stream(g, tables, in)
		if e != api.OK {
			t.Fatal("Stream:", e)
		}
		b = roomy(b)
		shared := roomy(tablesOf(t, tables, true))
		colours, others, parts, worse, values, bytes, sharedBytes := beyond(l), beyond(noColours), keptTile(in), keptTile(bad), keptTables(tables), beyond(b), beyond(shared)

		tile.From(g, l)
		tile.From(g, l[1:])
		tile.From(g, noColours)
		tile.Pixels(g, in)
		tile.Pixels(g, bad)
		tile.Reduce(g, [4]api.Tile{in, in, in, in})
		tile.Reduce(g, [4]api.Tile{in, in, in, bad})
		tile.Stream(g, tables, in)
		tile.Stream(g, tables, bad)
		tile.Stream(g, api.Tables{DC: tables.DC, AC: [2]api.Spec{single(9), single(9)}}, in)
		tile.Open(g, shared, b)
		tile.Open(g, shared[:20], b)
		tile.Open(g, shared, b[:len(b)/2])
		tile.Open(g, shared, b[:len(b)-1])

		if !slices.Equal(beyond(l), colours) || !slices.Equal(beyond(noColours), others) {
			t.Error("pixels are changed, or what is behind them")
		}
		if !sameLists(keptTile(in), parts) || !sameLists(keptTile(bad), worse) {
			t.Error("a tile is changed, or what is behind it")
		}
		if !sameLists(keptTables(tables), values) {
			t.Error("tables are changed, or what is behind them")
		}
		if !slices.Equal(beyond(b), bytes) || !slices.Equal(beyond(shared), sharedBytes) {
			t.Error("bytes are changed, or what is behind them")
		}
	}
}

// overwrite puts a value in all places of a list, up to its capacity.
func overwrite[T any](l []T, x T) {
	l = l[:cap(l)]
	for i := range l {
		l[i] = x
	}
}

// spoil writes over all blocks of a tile, and tells whether its parts share
// memory.
func spoil(in api.Tile) (shared bool) {
	for i, part := range in.Parts {
		overwrite(part, api.Block{1000 + i})
	}
	for i, part := range in.Parts {
		shared = shared || slices.ContainsFunc(part[:cap(part)], func(b api.Block) bool { return b != api.Block{1000 + i} })
	}
	overwrite(in.Parts, nil)
	return shared
}

// TestNewTiles: a tile that is told may be written over without a change to what
// was given, to another answer, or to a later one.
func TestNewTiles(t *testing.T) {
	roll := dice(11)
	for _, g := range few() {
		l, in, tables := drawPixels(g, 256, &roll), drawTile(g, 5, 90, &roll), enough(g, &roll)
		four := [4]api.Tile{in, in, in, drawTile(g, 5, 90, &roll)}
		b, _ := tile.Stream(g, tables, in)
		shared := tablesOf(t, tables, true)
		colours, before, last, bytes, sharedBytes := slices.Clone(l), copiedTile(in), copiedTile(four[3]), slices.Clone(b), slices.Clone(shared)
		for what, tell := range map[string]func() (api.Tile, api.Errno){
			"None":   func() (api.Tile, api.Errno) { return tile.None(g), api.OK },
			"From":   func() (api.Tile, api.Errno) { return tile.From(g, l) },
			"Reduce": func() (api.Tile, api.Errno) { return tile.Reduce(g, four) },
			"Open":   func() (api.Tile, api.Errno) { return tile.Open(g, shared, b) },
		} {
			first, e := tell()
			if e != api.OK {
				t.Fatal(what, e)
			}
			second, _ := tell()
			want := copiedTile(first)
			if spoil(first) {
				t.Error("parts of a tile of", what, "share memory")
			}
			if third, _ := tell(); !sameTile(second, want) || !sameTile(third, want) {
				t.Error("tiles of", what, "share memory")
			}
			if !slices.Equal(l, colours) || !sameTile(in, before) || !sameTile(four[3], last) || !slices.Equal(b, bytes) || !slices.Equal(shared, sharedBytes) {
				t.Error("a tile of", what, "shares memory with what was given")
			}
		}
	}
}

// TestNewTilesStay: a tile that was told stays as it was when what was given is
// written over.
func TestNewTilesStay(t *testing.T) {
	roll := dice(12)
	for _, g := range few() {
		l, in, tables := drawPixels(g, 256, &roll), drawTile(g, 5, 90, &roll), enough(g, &roll)
		b, _ := tile.Stream(g, tables, in)
		shared := tablesOf(t, tables, true)
		made, _ := tile.From(g, l)
		smaller, _ := tile.Reduce(g, [4]api.Tile{in, in, in, in})
		opened, _ := tile.Open(g, shared, b)
		shown, _ := tile.Pixels(g, in)
		answers := []api.Tile{copiedTile(made), copiedTile(smaller), copiedTile(opened)}
		colours, bytes := slices.Clone(shown), slices.Clone(b)
		overwrite(l, api.Pixel{R: 3})
		spoil(in)
		overwrite(shared, 5)
		for i := range 2 {
			overwrite(tables.DC[i].Vals, 99)
			overwrite(tables.AC[i].Vals, 99)
		}
		if !slices.Equal(b, bytes) {
			t.Error("bytes hang on what was given")
		}
		overwrite(b, 7)
		if !sameTile(made, answers[0]) || !sameTile(smaller, answers[1]) || !sameTile(opened, answers[2]) || !slices.Equal(shown, colours) {
			t.Error("an answer hangs on what was given")
		}
	}
}

// TestNewLists: pixels and bytes that are told may be written over.
func TestNewLists(t *testing.T) {
	roll := dice(13)
	for _, g := range few() {
		in, tables := drawTile(g, 5, 90, &roll), enough(g, &roll)
		before, values := copiedTile(in), keptTables(tables)
		colours, e := tile.Pixels(g, in)
		if e != api.OK {
			t.Fatal("Pixels:", e)
		}
		b, e := tile.Stream(g, tables, in)
		if e != api.OK {
			t.Fatal("Stream:", e)
		}
		otherColours, _ := tile.Pixels(g, in)
		otherBytes, _ := tile.Stream(g, tables, in)
		wantedColours, wantedBytes := slices.Clone(colours), slices.Clone(b)
		overwrite(colours, api.Pixel{R: 1, G: 2, B: 3})
		overwrite(b, 44)
		if !slices.Equal(otherColours, wantedColours) || !slices.Equal(otherBytes, wantedBytes) || !sameTile(in, before) || !sameLists(keptTables(tables), values) {
			t.Error("answers share memory")
		}
		pixels(t, "again", g, in, wantedColours, api.OK)
		streams(t, "again", g, tables, in, wantedBytes, api.OK)
	}
}
