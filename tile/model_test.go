package tile_test

import (
	"math"
	"slices"
	"testing"

	"clerestory/api"
	"clerestory/colour"
	"clerestory/dct"
	"clerestory/half"
	"clerestory/plane"
	"clerestory/quant"
	"clerestory/scan"
	"clerestory/segment"
	"clerestory/tile"
)

// dice is a source of numbers that are the same in every run.
type dice uint64

// below is the next number, less than n.
func (d *dice) below(n int) int {
	*d = *d*6364136223846793005 + 1442695040888963407
	return int(uint64(*d)>>33) % n
}

// shapeOf is how many blocks a tile has across and down, component by component.
func shapeOf(g api.Geometry) [][2]int {
	n := g.Tile / 8
	switch g.Kind {
	case api.Grey:
		return [][2]int{{n, n}}
	case api.Full:
		return [][2]int{{n, n}, {n, n}, {n, n}}
	case api.Wide:
		return [][2]int{{n, n}, {n / 2, n}, {n / 2, n}}
	}
	return [][2]int{{n, n}, {n / 2, n / 2}, {n / 2, n / 2}}
}

// few is a geometry of each kind, with each size of tiles.
func few() (l []api.Geometry) {
	for kind := range 4 {
		l = append(l, api.Geometry{W: 40, H: 30, Tile: 16, Kind: kind, Quality: 50}, api.Geometry{W: 100, H: 70, Tile: 32, Kind: kind, Quality: 80, Big: true})
	}
	return l
}

// geometries is valid geometries of all kinds, with the least and the greatest
// numbers in each field.
func geometries() (l []api.Geometry) {
	for kind := range 4 {
		for _, side := range []int{16, 32} {
			for i, quality := range []int{1, 2, 49, 50, 75, 99, 100} {
				g := api.Geometry{W: []int{1, 128, 16, 33}[i%4], H: []int{128, 1, 20}[i%3], Tile: side, Kind: kind, Quality: quality, Big: i%2 == 0}
				l = append(l, g)
			}
			l = append(l, api.Geometry{W: 1, H: 1, Tile: side, Kind: kind, Quality: 1}, api.Geometry{W: 128, H: 128, Tile: side, Kind: kind, Quality: 100})
		}
	}
	return l
}

// outside is numbers that are far out of any range.
var outside = []int{-1, -16, -32, math.MinInt, math.MaxInt, 1 << 32, 1<<32 + 1, 1<<32 + 16, -1<<32 + 16, 1 << 16, 256}

// notGeometries is geometries that are not valid, each in one field.
func notGeometries() (l []api.Geometry) {
	for _, g := range few() {
		for _, n := range append([]int{0, 129}, outside...) {
			a, b := g, g
			a.W, b.H = n, n
			l = append(l, a, b)
		}
		for _, n := range append([]int{0, 1, 8, 15, 17, 24, 31, 33, 48, 64, 128}, outside...) {
			a := g
			a.Tile = n
			l = append(l, a)
		}
		for _, n := range append([]int{4, 5}, outside...) {
			a := g
			a.Kind = n
			l = append(l, a)
		}
		for _, n := range append([]int{0, 101}, outside...) {
			a := g
			a.Quality = n
			l = append(l, a)
		}
	}
	return append(l, api.Geometry{}, api.Geometry{W: 129, H: 0, Tile: 64, Kind: -1, Quality: 101, Big: true})
}

// stepsOf is the steps of a component.
func stepsOf(g api.Geometry, part int) api.Block {
	steps, e := quant.Steps(part > 0, g.Quality)
	if e != api.OK {
		panic("no steps")
	}
	return steps
}

// toneParts is the samples of a pixel, component by component.
func toneParts(p api.Pixel) [3]int {
	tone, e := colour.Of(p)
	if e != api.OK {
		panic("no colour")
	}
	return [3]int{tone.Y, tone.Cb, tone.Cr}
}

// factors is by how much a component has fewer samples across and down.
func factors(g api.Geometry, part int) (int, int) {
	shape := shapeOf(g)
	return shape[0][0] / shape[part][0], shape[0][1] / shape[part][1]
}

// toldBlock is a block of samples, less 128 each, as it is told.
func toldBlock(g api.Geometry, part int, samples api.Block) api.Block {
	waves, e := dct.Forward(samples)
	if e != api.OK {
		panic("no waves")
	}
	b, e := quant.Down(waves, stepsOf(g, part))
	if e != api.OK {
		panic("not told")
	}
	return b
}

// shownBlock is the samples, less 128 each, of a block that is told.
func shownBlock(g api.Geometry, part int, b api.Block) api.Block {
	waves, e := quant.Up(b, stepsOf(g, part))
	if e != api.OK {
		panic("no waves")
	}
	samples, e := dct.Inverse(waves)
	if e != api.OK {
		panic("no samples")
	}
	return samples
}

// wantedTile is the tile of some pixels, step by step by the layers below.
func wantedTile(t *testing.T, g api.Geometry, l []api.Pixel) (out api.Tile) {
	t.Helper()
	for part := range shapeOf(g) {
		p := api.Plane{W: g.Tile, H: g.Tile}
		for _, x := range l {
			p.S = append(p.S, toneParts(x)[part])
		}
		across, down := factors(g, part)
		p, e := plane.Halve(p, across == 2, down == 2)
		if e != api.OK {
			t.Fatal("Halve:", e)
		}
		blocks, e := plane.Cut(p)
		if e != api.OK {
			t.Fatal("Cut:", e)
		}
		var told []api.Block
		for _, b := range blocks {
			told = append(told, toldBlock(g, part, b))
		}
		out.Parts = append(out.Parts, told)
	}
	return out
}

// sampledTile is the same without planes: each sample of each block is looked
// for among the pixels.
func sampledTile(g api.Geometry, l []api.Pixel) (out api.Tile) {
	for part, size := range shapeOf(g) {
		across, down := factors(g, part)
		var told []api.Block
		for at := range size[0] * size[1] {
			var b api.Block
			for i := range b {
				x, y := 8*(at%size[0])+i%8, 8*(at/size[0])+i/8
				sum, n := 0, across*down
				for k := range n {
					sum += toneParts(l[(y*down+k/across)*g.Tile+x*across+k%across])[part]
				}
				// No sum is below 0, so that halves go up.
				b[i] = (2*sum+n)/(2*n) - 128
			}
			told = append(told, toldBlock(g, part, b))
		}
		out.Parts = append(out.Parts, told)
	}
	return out
}

// wantedPixels is the pixels of a tile, step by step by the layers below.
func wantedPixels(t *testing.T, g api.Geometry, in api.Tile) (l []api.Pixel) {
	t.Helper()
	var planes []api.Plane
	for part, blocks := range in.Parts {
		var shown []api.Block
		for _, b := range blocks {
			shown = append(shown, shownBlock(g, part, b))
		}
		across, down := factors(g, part)
		p, e := plane.Join(shown, g.Tile/across, g.Tile/down)
		if e != api.OK {
			t.Fatal("Join:", e)
		}
		if p, e = plane.Grow(p, across == 2, down == 2, g.Tile, g.Tile); e != api.OK {
			t.Fatal("Grow:", e)
		}
		planes = append(planes, p)
	}
	for i := range g.Tile * g.Tile {
		tone := colour.Tone{Y: planes[0].S[i], Cb: 128, Cr: 128}
		if g.Kind != api.Grey {
			tone.Cb, tone.Cr = planes[1].S[i], planes[2].S[i]
		}
		p, e := tone.Pixel()
		if e != api.OK {
			t.Fatal("Pixel:", e)
		}
		l = append(l, p)
	}
	return l
}

// sampledPixels is the same without planes: the samples of each pixel are looked
// for among the blocks.
func sampledPixels(g api.Geometry, in api.Tile) (l []api.Pixel) {
	shape := shapeOf(g)
	shown := make([][]api.Block, len(shape))
	for part := range shape {
		for _, b := range in.Parts[part] {
			shown[part] = append(shown[part], shownBlock(g, part, b))
		}
	}
	for i := range g.Tile * g.Tile {
		tone := [3]int{128, 128, 128}
		for part, size := range shape {
			across, down := factors(g, part)
			x, y := i%g.Tile/across, i/g.Tile/down
			n := shown[part][y/8*size[0]+x/8][y%8*8+x%8]
			tone[part] = min(max(n, -128), 127) + 128
		}
		p, e := colour.Tone{Y: tone[0], Cb: tone[1], Cr: tone[2]}.Pixel()
		if e != api.OK {
			panic("no colour")
		}
		l = append(l, p)
	}
	return l
}

// spot is where a block stands in a component, or in the components of four
// tiles that are put together.
type spot struct{ x, y int }

// quad is the four blocks that make the one of a component at a spot: all blocks
// of the four tiles are laid out first.
func quad(g api.Geometry, four [4]api.Tile, part int, at spot) (l [4]api.Block) {
	size := shapeOf(g)[part]
	laid := map[spot]api.Block{}
	for i, corner := range []spot{{0, 0}, {size[0], 0}, {0, size[1]}, {size[0], size[1]}} {
		for y := range size[1] {
			for x := range size[0] {
				laid[spot{corner.x + x, corner.y + y}] = four[i].Parts[part][y*size[0]+x]
			}
		}
	}
	for i, p := range []spot{{2 * at.x, 2 * at.y}, {2*at.x + 1, 2 * at.y}, {2 * at.x, 2*at.y + 1}, {2*at.x + 1, 2*at.y + 1}} {
		b, ok := laid[p]
		if !ok {
			panic("no block there")
		}
		l[i] = b
	}
	return l
}

// wantedReduced is four tiles as one.
func wantedReduced(t *testing.T, g api.Geometry, four [4]api.Tile) (out api.Tile) {
	t.Helper()
	for part, size := range shapeOf(g) {
		var l []api.Block
		for y := range size[1] {
			for x := range size[0] {
				b, e := half.Told(quad(g, four, part, spot{x, y}), stepsOf(g, part))
				if e != api.OK {
					t.Fatal("Told:", e)
				}
				l = append(l, b)
			}
		}
		out.Parts = append(out.Parts, l)
	}
	return out
}

// headBytes is the header of a geometry's streams, worked out by hand.
func headBytes(g api.Geometry) []byte {
	side := byte(g.Tile)
	if g.Kind == api.Grey {
		return []byte{0xff, 0xd8,
			0xff, 0xc0, 0, 11, 8, 0, side, 0, side, 1, 1, 0x11, 0,
			0xff, 0xda, 0, 8, 1, 1, 0x00, 0, 0x3f, 0}
	}
	sampling := map[int]byte{api.Full: 0x11, api.Wide: 0x21, api.Small: 0x22}[g.Kind]
	return []byte{0xff, 0xd8,
		0xff, 0xc0, 0, 17, 8, 0, side, 0, side, 3, 1, sampling, 0, 2, 0x11, 1, 3, 0x11, 1,
		0xff, 0xda, 0, 12, 3, 1, 0x00, 2, 0x11, 3, 0x11, 0, 0x3f, 0}
}

// scanOf is the header of a geometry's tiles.
func scanOf(g api.Geometry) api.Scan { return api.Scan{W: g.Tile, H: g.Tile, Kind: g.Kind} }

// wantedStream is a valid tile's stream, or the error of its scan.
func wantedStream(g api.Geometry, tables api.Tables, in api.Tile) ([]byte, api.Errno) {
	b, e := scan.Put(scanOf(g), tables, in)
	if e != api.OK {
		return nil, e
	}
	return slices.Concat(headBytes(g), b, []byte{0xff, 0xd9}), api.OK
}

// wantedOpen is the tile of a stream, or the error, in the document's order.
func wantedOpen(g api.Geometry, tables, b []byte) (api.Tile, api.Errno) {
	first, e := segment.Read(tables, api.Known{})
	if e != api.OK {
		return api.Tile{}, e
	}
	if !first.Over {
		return api.Tile{}, api.ErrForm
	}
	k, e := segment.Read(b, first)
	if e != api.OK {
		return api.Tile{}, e
	}
	uses := map[int]int{api.Grey: 1, api.Full: 2, api.Wide: 2, api.Small: 2}[g.Kind]
	for i := range uses {
		if !k.HasDC[i] || !k.HasAC[i] {
			return api.Tile{}, api.ErrMissing
		}
	}
	if !k.Started {
		return api.Tile{}, api.ErrMissing
	}
	if k.Scan.W != g.Tile || k.Scan.H != g.Tile || k.Scan.Kind != g.Kind || k.Scan.Restart != 0 {
		return api.Tile{}, api.ErrForm
	}
	out, n, e := scan.Get(k.Scan, k.Tables, b[k.At:])
	if e != api.OK {
		return api.Tile{}, e
	}
	if !slices.Equal(b[k.At+n:], []byte{0xff, 0xd9}) {
		return api.Tile{}, api.ErrMark
	}
	return out, api.OK
}

// zeros is a geometry's tile of zeros.
func zeros(g api.Geometry) (t api.Tile) {
	for _, size := range shapeOf(g) {
		t.Parts = append(t.Parts, make([]api.Block, size[0]*size[1]))
	}
	return t
}

// drawTile is a geometry's tile at random, in which one in rare numbers is not
// 0, of up to most either way.
func drawTile(g api.Geometry, rare, most int, roll *dice) api.Tile {
	t := zeros(g)
	for _, part := range t.Parts {
		for i := range part {
			for k := range part[i] {
				if roll.below(rare) == 0 {
					part[i][k] = roll.below(2*most+1) - most
				}
			}
			part[i][0] = roll.below(2*most+1) - most
		}
	}
	return t
}

// tilesOf is valid tiles of some kinds: bounds alone, few numbers and many.
func tilesOf(g api.Geometry, roll *dice) []api.Tile {
	high, low, turns := zeros(g), zeros(g), zeros(g)
	for p := range high.Parts {
		for i := range high.Parts[p] {
			for k := range 64 {
				high.Parts[p][i][k], low.Parts[p][i][k] = 1023, -1023
				turns.Parts[p][i][k] = 1023 - 2046*roll.below(2)
			}
		}
	}
	return []api.Tile{zeros(g), high, low, turns, drawTile(g, 1, 1023, roll), drawTile(g, 9, 60, roll), drawTile(g, 30, 9, roll), drawTile(g, 2, 2, roll)}
}

// drawPixels is pixels at random, each part of up to n numbers, spread from 0 to
// 255.
func drawPixels(g api.Geometry, n int, roll *dice) (l []api.Pixel) {
	part := func() int { return roll.below(n) * 255 / (n - 1) }
	for range g.Tile * g.Tile {
		l = append(l, api.Pixel{R: part(), G: part(), B: part()})
	}
	return l
}

// plain is pixels that are all the same.
func plain(g api.Geometry, p api.Pixel) []api.Pixel {
	return slices.Repeat([]api.Pixel{p}, g.Tile*g.Tile)
}

// smooth is pixels that change little by little across and down.
func smooth(g api.Geometry) (l []api.Pixel) {
	for i := range g.Tile * g.Tile {
		x, y := i%g.Tile, i/g.Tile
		l = append(l, api.Pixel{R: 40 + 4*x, G: 200 - 3*y, B: 60 + 2*x + 2*y})
	}
	return l
}

// pixelsOf is pixels of some kinds.
func pixelsOf(g api.Geometry, roll *dice) [][]api.Pixel {
	return [][]api.Pixel{
		drawPixels(g, 256, roll), drawPixels(g, 256, roll), drawPixels(g, 2, roll), drawPixels(g, 4, roll), smooth(g),
		plain(g, api.Pixel{}), plain(g, api.Pixel{R: 255, G: 255, B: 255}), plain(g, api.Pixel{B: 255}), plain(g, api.Pixel{R: 255, G: 255}),
	}
}

// spec is a Huffman table of counts of codes, from 1 bit on, and values.
func spec(counts []int, values ...int) (s api.Spec) {
	copy(s.Bits[:], counts)
	s.Vals = values
	return s
}

// single is the table of a value alone.
func single(value int) api.Spec { return spec([]int{1}, value) }

// wide is the table of some values by codes of 9 bits each.
func wide(values []int) api.Spec {
	return spec([]int{0, 0, 0, 0, 0, 0, 0, 0, len(values)}, values...)
}

// enough is tables with codes for all that a block may need, in an order at
// random, and a geometry's steps.
func enough(g api.Geometry, roll *dice) (t api.Tables) {
	for i := range 2 {
		t.Steps[i] = stepsOf(g, i)
		t.DC[i] = wide(mixed(12, func(n int) int { return n }, roll))
		t.AC[i] = wide(mixed(162, func(n int) int {
			if n >= 160 {
				return []int{0x00, 0xf0}[n-160]
			}
			return 16*(n/10) + n%10 + 1
		}, roll))
	}
	return t
}

// mixed is what a function tells of the numbers less than n, in an order at
// random.
func mixed(n int, tell func(n int) int, roll *dice) (l []int) {
	for i := range n {
		l = slices.Insert(l, roll.below(i+1), tell(i))
	}
	return l
}

// tablesOf is the stream of some tables, which there must be.
func tablesOf(t *testing.T, tables api.Tables, tints bool) []byte {
	t.Helper()
	b, e := segment.Tables(tables, tints)
	if e != api.OK {
		t.Fatal("Tables:", e)
	}
	return b
}

// tuned is the tables that suit some tiles.
func tuned(t *testing.T, g api.Geometry, l ...api.Tile) api.Tables {
	t.Helper()
	tables, e := scan.Tune(scanOf(g), l, [2]api.Block{stepsOf(g, 0), stepsOf(g, 1)})
	if e != api.OK {
		t.Fatal("Tune:", e)
	}
	return tables
}

// sameTile tells whether tiles are the same.
func sameTile(a, b api.Tile) bool {
	return slices.EqualFunc(a.Parts, b.Parts, func(c, d []api.Block) bool { return slices.Equal(c, d) })
}

// copiedTile is a tile of its own memory.
func copiedTile(t api.Tile) (c api.Tile) {
	for _, part := range t.Parts {
		c.Parts = append(c.Parts, slices.Clone(part))
	}
	return c
}

// notTiles is tiles that are not valid for a geometry, each but for one thing
// like one that is.
func notTiles(good api.Tile) []api.Tile {
	last := len(good.Parts) - 1
	l := []api.Tile{
		{},
		{Parts: make([][]api.Block, last+1)},
		{Parts: good.Parts[:last]},
		{Parts: slices.Concat(good.Parts, [][]api.Block{nil})},
		{Parts: slices.Concat(good.Parts, good.Parts[:1])},
	}
	for part := range good.Parts {
		few, many, none, first, end := copiedTile(good), copiedTile(good), copiedTile(good), copiedTile(good), copiedTile(good)
		few.Parts[part] = few.Parts[part][1:]
		many.Parts[part] = append(many.Parts[part], api.Block{})
		none.Parts[part] = nil
		first.Parts[part][0][0] = 1024
		end.Parts[part][len(end.Parts[part])-1][63] = -1024
		l = append(l, few, many, none, first, end)
	}
	return l
}

// from holds From against what it must tell.
func from(t *testing.T, what string, g api.Geometry, l []api.Pixel, want api.Tile, e api.Errno) {
	t.Helper()
	if out, f := tile.From(g, l); !sameTile(out, want) || f != e {
		t.Errorf("%s: From of %v: %v %d, not %v %d", what, g, out, f, want, e)
	}
}

// pixels holds Pixels against what it must tell.
func pixels(t *testing.T, what string, g api.Geometry, in api.Tile, want []api.Pixel, e api.Errno) {
	t.Helper()
	if l, f := tile.Pixels(g, in); !slices.Equal(l, want) || f != e {
		t.Errorf("%s: Pixels of %v: %v %d, not %v %d", what, g, l, f, want, e)
	}
}

// reduced holds Reduce against what it must tell.
func reduced(t *testing.T, what string, g api.Geometry, four [4]api.Tile, want api.Tile, e api.Errno) {
	t.Helper()
	if out, f := tile.Reduce(g, four); !sameTile(out, want) || f != e {
		t.Errorf("%s: Reduce of %v: %v %d, not %v %d", what, g, out, f, want, e)
	}
}

// streams holds Stream against what it must tell.
func streams(t *testing.T, what string, g api.Geometry, tables api.Tables, in api.Tile, want []byte, e api.Errno) {
	t.Helper()
	if b, f := tile.Stream(g, tables, in); !slices.Equal(b, want) || f != e {
		t.Errorf("%s: Stream of %v: %x %d, not %x %d", what, g, b, f, want, e)
	}
}

// opens holds Open against what it must tell.
func opens(t *testing.T, what string, g api.Geometry, tables, b []byte, want api.Tile, e api.Errno) {
	t.Helper()
	if out, f := tile.Open(g, tables, b); !sameTile(out, want) || f != e {
		t.Errorf("%s: Open of %v, tables %x, %x: %d, not %d; the same tile: %v", what, g, tables, b, f, e, sameTile(out, want))
	}
}

// refuses holds an error of Open against what it must be.
func refuses(t *testing.T, what string, g api.Geometry, tables, b []byte, e api.Errno) {
	t.Helper()
	opens(t, what, g, tables, b, api.Tile{}, e)
}

// opening holds Open against the document, and is the error.
func opening(t *testing.T, what string, g api.Geometry, tables, b []byte) api.Errno {
	t.Helper()
	want, e := wantedOpen(g, tables, b)
	opens(t, what, g, tables, b, want, e)
	return e
}
