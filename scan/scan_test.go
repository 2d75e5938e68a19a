package scan_test

import (
	"slices"
	"testing"

	"clerestory/api"
	"clerestory/coef"
	"clerestory/scan"
	"clerestory/tuned"
)

// TestExample1: 9 by 9 is one unit of Small, and four of Grey.
func TestExample1(t *testing.T) {
	s := api.Scan{W: 9, H: 9, Kind: api.Small}
	if l := scan.Shape(s); !slices.Equal(l, [][2]int{{2, 2}, {1, 1}, {1, 1}}) {
		t.Error("Small:", l)
	}
	s.Kind = api.Grey
	if l := scan.Shape(s); !slices.Equal(l, [][2]int{{2, 2}}) {
		t.Error("Grey:", l)
	}
	// Six blocks of zeros have two symbols each. A restart behind each unit
	// tells how many there are.
	tables := api.Tables{DC: [2]api.Spec{single(0), single(0)}, AC: [2]api.Spec{single(0), single(0)}}
	s = api.Scan{W: 9, H: 9, Kind: api.Small, Restart: 1}
	puts(t, "1 unit", s, tables, firsts(make([]int, 4), []int{0}, []int{0}), []byte{0x00, 0x0f}, api.OK)
	s.Kind = api.Grey
	puts(t, "4 units", s, tables, firsts(make([]int, 4)), []byte{0x3f, 0xff, 0xd0, 0x3f, 0xff, 0xd1, 0x3f, 0xff, 0xd2, 0x3f}, api.OK)
}

// TestP14_1Shape: worked out by hand for each size.
func TestP14_1Shape(t *testing.T) {
	one := map[int]int{1: 1, 7: 1, 8: 1, 9: 2, 15: 2, 16: 2, 17: 3, 127: 16, 128: 16}
	two := map[int]int{1: 1, 7: 1, 8: 1, 9: 1, 15: 1, 16: 1, 17: 2, 127: 8, 128: 8} // where a unit has two blocks across or down
	for _, w := range edges {
		for _, h := range edges {
			for _, restart := range []int{0, 1, 65535} {
				for kind, want := range [][][2]int{
					api.Grey:  {{one[w], one[h]}},
					api.Full:  {{one[w], one[h]}, {one[w], one[h]}, {one[w], one[h]}},
					api.Wide:  {{2 * two[w], one[h]}, {two[w], one[h]}, {two[w], one[h]}},
					api.Small: {{2 * two[w], 2 * two[h]}, {two[w], two[h]}, {two[w], two[h]}},
				} {
					s := api.Scan{W: w, H: h, Kind: kind, Restart: restart}
					if l := scan.Shape(s); !slices.Equal(l, want) {
						t.Error("Shape of", s, "is", l, "not", want)
					}
				}
			}
		}
	}
}

// TestP14_1ShapeOfAnySize: all sizes, by pieces that are laid one by one.
func TestP14_1ShapeOfAnySize(t *testing.T) {
	for kind, parts := range inUnit {
		for w := 1; w <= 128; w++ {
			for h := 1; h <= 128; h++ {
				var want [][2]int
				for _, size := range parts {
					want = append(want, [2]int{cover(w, 8*parts[0][0]) * size[0], cover(h, 8*parts[0][1]) * size[1]})
				}
				s := api.Scan{W: w, H: h, Kind: kind}
				if l := scan.Shape(s); !slices.Equal(l, want) {
					t.Error("Shape of", s, "is", l, "not", want)
				}
			}
		}
	}
}

// TestP14_1ShapeOfNoHeader: headers that are not valid in one field.
func TestP14_1ShapeOfNoHeader(t *testing.T) {
	for _, s := range notScans() {
		if l := scan.Shape(s); len(l) != 0 {
			t.Error("Shape of", s, "is", l)
		}
	}
}

// right holds Right against what it must tell.
func right(t *testing.T, what string, s api.Scan, tile api.Tile, want bool) {
	t.Helper()
	if scan.Right(s, tile) != want {
		t.Error(what, s, "Right is", !want)
	}
}

// TestP14_1Right: valid tiles, and those with a part or a block too few or too
// many.
func TestP14_1Right(t *testing.T) {
	roll := dice(1)
	for _, s := range append(scans(), few()...) {
		tile := drawTile(s, 3, &roll)
		right(t, "valid", s, tile, true)
		right(t, "zeros", s, zeros(s), true)
		right(t, "empty", s, api.Tile{}, false)
		right(t, "empty parts", s, api.Tile{Parts: make([][]api.Block, len(tile.Parts))}, false)
		right(t, "a part too few", s, api.Tile{Parts: tile.Parts[1:]}, false)
		right(t, "a part too few", s, api.Tile{Parts: tile.Parts[:len(tile.Parts)-1]}, false)
		right(t, "an empty part too many", s, api.Tile{Parts: slices.Concat(tile.Parts, [][]api.Block{nil})}, false)
		right(t, "a part too many", s, api.Tile{Parts: slices.Concat(tile.Parts, tile.Parts[:1])}, false)
		right(t, "as many parts again", s, api.Tile{Parts: slices.Concat(tile.Parts, tile.Parts)}, false)
		for i, part := range tile.Parts {
			for _, other := range [][]api.Block{nil, part[1:], part[:len(part)-1], slices.Concat(part, part[:1]), slices.Concat(part, part)} {
				parts := slices.Clone(tile.Parts)
				parts[i] = other
				right(t, "another number of blocks", s, api.Tile{Parts: parts}, false)
			}
			parts := slices.Clone(tile.Parts)
			parts[0], parts[i] = parts[i], parts[0]
			right(t, "parts in another order", s, api.Tile{Parts: parts}, len(part) == len(tile.Parts[0]))
		}
	}
}

// TestP14_1RightOfBlocksThatAreNot: in each place of a tile, at the first and
// the last number of a block.
func TestP14_1RightOfBlocksThatAreNot(t *testing.T) {
	roll := dice(2)
	for _, s := range few() {
		tile := drawTile(s, 3, &roll)
		for _, part := range tile.Parts {
			for i := range part {
				for _, at := range []int{0, roll.below(64), 63} {
					before := part[i]
					for _, n := range append([]int{-1024, 1024}, outside...) {
						part[i][at] = n
						right(t, "no block", s, tile, n == -1 || n == -2)
					}
					for _, n := range []int{-1023, 1023} {
						part[i][at] = n
						right(t, "a block", s, tile, true)
					}
					part[i] = before
				}
			}
		}
	}
}

// TestP14_1RightOfAnotherHeader: a tile is valid for the headers of its shape
// alone.
func TestP14_1RightOfAnotherHeader(t *testing.T) {
	l := append(scans(), few()...)
	for _, a := range l {
		tile := zeros(a)
		for _, b := range l {
			right(t, "another header", b, tile, slices.Equal(lengths(tile), lengths(zeros(b))))
		}
	}
}

// lengths is how many blocks the parts of a tile have.
func lengths(t api.Tile) (l []int) {
	for _, part := range t.Parts {
		l = append(l, len(part))
	}
	return l
}

// TestP14_1RightOfNoHeader: no tile is valid for a header that is not.
func TestP14_1RightOfNoHeader(t *testing.T) {
	for _, s := range notScans() {
		for _, tile := range tilesOfNoHeader() {
			right(t, "no header", s, tile, false)
		}
	}
}

// tilesOfNoHeader is tiles that a header of 16 by 9, or nearly such a one, might
// have, and empty ones.
func tilesOfNoHeader() (l []api.Tile) {
	for n := range 4 {
		l = append(l, api.Tile{Parts: make([][]api.Block, n)})
	}
	for kind := range 4 {
		l = append(l, zeros(api.Scan{W: 16, H: 9, Kind: kind}), zeros(api.Scan{W: 128, H: 9, Kind: kind}), zeros(api.Scan{W: 16, H: 128, Kind: kind}))
	}
	return l
}

// steps is some steps, which Tune only passes on.
var steps = [2]api.Block{{1, 2, 3}, {-5, 0, 256, 63: 9}}

// wantedTables is the tables of some tiles: counted by layer 7 in the order of
// the scan, and made by layer 6.
func wantedTables(t *testing.T, s api.Scan, l []api.Tile) api.Tables {
	t.Helper()
	counts := [2][2][]int{}
	for i := range 4 {
		counts[i/2][i%2] = make([]int, 256)
	}
	for _, tile := range l {
		for _, run := range runs(s) {
			prev := map[int]int{}
			for _, p := range run {
				b := tile.Parts[p.part][p.at]
				c := &counts[min(p.part, 1)]
				var e api.Errno
				if c[0], c[1], e = coef.Tally(c[0], c[1], prev[p.part], b); e != api.OK {
					t.Fatal("Tally:", e)
				}
				prev[p.part] = b[0]
			}
		}
	}
	tables := api.Tables{Steps: steps}
	for i := range 2 {
		tables.DC[i], tables.AC[i] = tunedTo(t, counts[i][0]), tunedTo(t, counts[i][1])
	}
	return tables
}

// tunedTo is the table for counts, or that of a single 0.
func tunedTo(t *testing.T, counts []int) api.Spec {
	t.Helper()
	if slices.Max(counts) == 0 {
		return single(0)
	}
	s, e := tuned.Spec(counts)
	if e != api.OK {
		t.Fatal("Spec:", e)
	}
	return s
}

// tune is the tables of some tiles, which there must be.
func tune(t *testing.T, s api.Scan, l []api.Tile) api.Tables {
	t.Helper()
	tables, e := scan.Tune(s, l, steps)
	if e != api.OK {
		t.Fatal("Tune:", s, len(l), e)
	}
	return tables
}

// tunes holds Tune against what it must tell.
func tunes(t *testing.T, what string, s api.Scan, l []api.Tile, want api.Tables) {
	t.Helper()
	if tables, e := scan.Tune(s, l, steps); e != api.OK || !sameTables(tables, want) {
		t.Errorf("%s: Tune of %v and %d tiles: %v %d, not %v", what, s, len(l), tables, e, want)
	}
}

// TestP14_1TuneByHand: a tile whose symbols are counted by hand.
func TestP14_1TuneByHand(t *testing.T) {
	tile := firsts([]int{1, 2, 5, 5, 4, 4, 6, 0}, []int{-1, 2}, []int{0, 0})
	tile.Parts[2][1][63] = 1
	// Brightness: the sizes 1 1 2 0, 1 0 1 3, and 00 eight times. Colour: 1 0, 2
	// 0, and 00 three times, f0 three times and e1 once.
	want := api.Tables{Steps: steps}
	// 0 twice, 1 four times, 2 and 3 once, and the further one: 3 and that are
	// joined to 2, with 2 to 3, with 0 to 5, and then with 1.
	want.DC[0] = spec([]int{1, 1, 1, 1}, 1, 0, 2, 3)
	want.AC[0] = single(0)
	// 0 twice, 1 and 2 once, and the further one: 2 and that are joined to 2,
	// with 1 to 3, and then with 0.
	want.DC[1] = spec([]int{1, 1, 1}, 0, 1, 2)
	// 00 three times, f0 three times, e1 once, and the further one: e1 and that
	// are joined to 2, with f0 to 5, and then with 00.
	want.AC[1] = spec([]int{1, 1, 1}, 0x00, 0xf0, 0xe1)
	s := api.Scan{W: 17, H: 9, Kind: api.Small}
	tunes(t, "by hand", s, []api.Tile{tile}, want)
	// The sizes of brightness are 1 1 2 0, 3 0 1 3 with a restart: 2 and the
	// further one are joined to 2, with 3 to 4, 0 and 1 to 5, and then all.
	s.Restart = 1
	want.DC[0] = spec([]int{0, 3, 1}, 0, 1, 3, 2)
	tunes(t, "by hand", s, []api.Tile{tile}, want)
}

// TestP14_1Tune: no tiles, one and several, with and without restarts.
func TestP14_1Tune(t *testing.T) {
	roll := dice(3)
	for _, s := range append(scans(), few()...) {
		var l []api.Tile
		for range 4 {
			for range 2 {
				with := s
				with.Restart = restarts(s)[roll.below(len(restarts(s)))]
				tunes(t, "tiles", with, l, wantedTables(t, with, l))
			}
			l = append(l, drawTile(s, 1+roll.below(70), &roll))
		}
		tunes(t, "zeros", s, []api.Tile{zeros(s)}, wantedTables(t, s, []api.Tile{zeros(s)}))
		tunes(t, "the same twice", s, []api.Tile{l[1], l[1]}, wantedTables(t, s, []api.Tile{l[1], l[1]}))
	}
}

// TestP14_1TuneOfNothing: where nothing is counted, the table is that of a
// single 0.
func TestP14_1TuneOfNothing(t *testing.T) {
	want := api.Tables{Steps: steps, DC: [2]api.Spec{single(0), single(0)}, AC: [2]api.Spec{single(0), single(0)}}
	for _, s := range scans() {
		tunes(t, "no tiles", s, nil, want)
		tunes(t, "no tiles", s, []api.Tile{}, want)
		tunes(t, "zeros", s, []api.Tile{zeros(s)}, want)
	}
	// All of no tiles are valid, even for a header that is not.
	for _, s := range notScans() {
		tunes(t, "no tiles and no header", s, nil, want)
	}
	roll := dice(4)
	s := api.Scan{W: 30, H: 30}
	tables := tune(t, s, []api.Tile{drawTile(s, 3, &roll)})
	if !sameSpec(tables.DC[1], single(0)) || !sameSpec(tables.AC[1], single(0)) || sameSpec(tables.DC[0], single(0)) || sameSpec(tables.AC[0], single(0)) {
		t.Error("Tune of Grey:", tables)
	}
	// A component whose blocks are full has no 00.
	full := firsts([]int{3})
	for i := range full.Parts[0][0] {
		full.Parts[0][0][i] = 3
	}
	want.DC[0], want.AC[0] = single(2), single(2)
	tunes(t, "no 00", api.Scan{W: 8, H: 8}, []api.Tile{full}, want)
}

// TestP14_1TuneOfTilesThatAreNot: in the first, a middle and the last place.
func TestP14_1TuneOfTilesThatAreNot(t *testing.T) {
	roll := dice(5)
	for _, s := range few() {
		good := drawTile(s, 9, &roll)
		for _, bad := range notTiles(s, good) {
			for at := range 4 {
				l := []api.Tile{good, good, good}
				l = slices.Insert(l, at, bad)
				if tables, e := scan.Tune(s, l, steps); e != api.ErrArg || !sameTables(tables, api.Tables{}) {
					t.Error("Tune with a tile that is not valid at", at, "is", tables, e)
				}
			}
			if tables, e := scan.Tune(s, []api.Tile{bad}, steps); e != api.ErrArg || !sameTables(tables, api.Tables{}) {
				t.Error("Tune of a tile that is not valid:", tables, e)
			}
		}
	}
	for _, s := range notScans() {
		for _, tile := range tilesOfNoHeader() {
			if tables, e := scan.Tune(s, []api.Tile{tile}, steps); e != api.ErrArg || !sameTables(tables, api.Tables{}) {
				t.Error("Tune of", s, "is", tables, e)
			}
		}
	}
}

// notTiles is tiles that are not valid for a header, each but for one thing
// like one that is.
func notTiles(s api.Scan, good api.Tile) []api.Tile {
	l := []api.Tile{
		{},
		{Parts: good.Parts[1:]},
		{Parts: slices.Concat(good.Parts, [][]api.Block{nil})},
		{Parts: slices.Concat(good.Parts, good.Parts[:1])},
	}
	last := len(good.Parts) - 1
	few, many, first, end := copiedTile(good), copiedTile(good), copiedTile(good), copiedTile(good)
	few.Parts[last] = few.Parts[last][1:]
	many.Parts[0] = append(many.Parts[0], api.Block{})
	first.Parts[0][0][0] = 1024
	end.Parts[last][len(end.Parts[last])-1][63] = -1024
	return append(l, few, many, first, end)
}

// hand is tables by which the codes are easily told.
func hand() api.Tables {
	return api.Tables{
		DC: [2]api.Spec{
			spec([]int{0, 3, 1}, 0, 1, 2, 3), // 00 01 10 110
			spec([]int{0, 2, 1}, 2, 1, 0),    // 00 01 100
		},
		AC: [2]api.Spec{
			single(0),                              // 0
			spec([]int{0, 0, 1, 2}, 0, 0x21, 0x02), // 000 0010 0011
		},
	}
}

// handTile is 4 by 2 blocks of brightness and 2 by 1 of each colour.
func handTile() api.Tile {
	t := firsts([]int{1, 2, 5, 5, 4, 4, 6, 0}, []int{-1, 2}, []int{0, -1})
	// At the positions 3 and 4.
	t.Parts[1][0][16], t.Parts[1][0][9] = 1, -3
	return t
}

// TestP14_2ByHand: bytes that are worked out by hand.
func TestP14_2ByHand(t *testing.T) {
	s := api.Scan{W: 17, H: 9, Kind: api.Small}
	// The first unit has 1 2 above 4 4 and the second one 5 5 above 6 0.
	first := []string{"01 1 0", "01 1 0", "10 10 0", "00 0", "01 0 0010 1 0011 00 000", "100 000"}
	want := bitsOf(append(first, "01 1 0", "00 0", "01 1 0", "110 001 0", "00 11 000", "01 0 000")...)
	puts(t, "by hand", s, hand(), handTile(), want, api.OK)
	gets(t, "by hand", s, hand(), want, handTile(), len(want), api.OK)
	s.Restart = 2
	puts(t, "no unit behind", s, hand(), handTile(), want, api.OK)
	s.Restart = 1
	want = slices.Concat(bitsOf(first...), []byte{0xff, 0xd0}, bitsOf("110 101 0", "00 0", "01 1 0", "110 001 0", "00 10 000", "01 0 000"))
	puts(t, "by hand, with a restart", s, hand(), handTile(), want, api.OK)
	gets(t, "by hand, with a restart", s, hand(), want, handTile(), len(want), api.OK)
}

// TestP14_2OrderByHand: the order of the blocks of each kind, each of which is
// told by a number of its own.
func TestP14_2OrderByHand(t *testing.T) {
	// No difference has a size above 3.
	tables := api.Tables{
		DC: [2]api.Spec{spec([]int{0, 3, 1}, 1, 2, 3, 0), spec([]int{0, 3, 1}, 3, 2, 1, 0)},
		AC: [2]api.Spec{single(0), single(0)},
	}
	for _, c := range []struct {
		s     api.Scan
		tile  api.Tile
		order [][2]int // which component's, and its number at index 0
	}{
		{api.Scan{W: 24, H: 16}, firsts([]int{1, 2, 3, 5, 7, 9}),
			[][2]int{{0, 1}, {0, 2}, {0, 3}, {0, 5}, {0, 7}, {0, 9}}},
		{api.Scan{W: 16, H: 16, Kind: api.Full}, firsts([]int{1, 2, 3, 5}, []int{-1, -2, -3, -5}, []int{3, 6, 9, 12}),
			[][2]int{{0, 1}, {1, -1}, {2, 3}, {0, 2}, {1, -2}, {2, 6}, {0, 3}, {1, -3}, {2, 9}, {0, 5}, {1, -5}, {2, 12}}},
		{api.Scan{W: 17, H: 9, Kind: api.Wide}, firsts([]int{1, 2, 3, 5, 7, 9, 6, 4}, []int{-1, -2, -3, -5}, []int{3, 6, 9, 12}),
			[][2]int{{0, 1}, {0, 2}, {1, -1}, {2, 3}, {0, 3}, {0, 5}, {1, -2}, {2, 6}, {0, 7}, {0, 9}, {1, -3}, {2, 9}, {0, 6}, {0, 4}, {1, -5}, {2, 12}}},
		{api.Scan{W: 17, H: 17, Kind: api.Small}, firsts([]int{1, 2, 5, 7, 3, 4, 9, 8, 10, 9, 13, 12, 5, 7, 14, 16}, []int{-1, -2, -3, -5}, []int{3, 6, 9, 12}),
			[][2]int{{0, 1}, {0, 2}, {0, 3}, {0, 4}, {1, -1}, {2, 3}, {0, 5}, {0, 7}, {0, 9}, {0, 8}, {1, -2}, {2, 6}, {0, 10}, {0, 9}, {0, 5}, {0, 7}, {1, -3}, {2, 9}, {0, 13}, {0, 12}, {0, 14}, {0, 16}, {1, -5}, {2, 12}}},
	} {
		text, prev := "", [3]int{}
		for _, b := range c.order {
			difference := digits(b[1] - prev[b[0]])
			codes := codesOf(tables.DC[min(b[0], 1)])
			text += codes[len(difference)] + difference + "0"
			prev[b[0]] = b[1]
		}
		puts(t, "order", c.s, tables, c.tile, filled(text), api.OK)
		gets(t, "order", c.s, tables, filled(text), c.tile, len(filled(text)), api.OK)
	}
}

// TestP14_2Put: each kind at many sizes, by tables that have all codes.
func TestP14_2Put(t *testing.T) {
	roll := dice(7)
	for _, s := range append(scans(), few()...) {
		for _, rare := range []int{1, 4, 20, 100} {
			tables, tile := enough(&roll), drawTile(s, rare, &roll)
			want, e := wantedBytes(s, tables, tile)
			if e != api.OK {
				t.Fatal(e)
			}
			puts(t, "any", s, tables, tile, want, api.OK)
		}
	}
}

// TestP14_2PutAtAnyEdge: sizes at which the last units reach beyond the edge,
// and at which they do not.
func TestP14_2PutAtAnyEdge(t *testing.T) {
	roll := dice(8)
	tables := short()
	for kind := range 4 {
		for _, w := range edges {
			for _, h := range edges {
				s := api.Scan{W: w, H: h, Kind: kind, Restart: roll.below(4)}
				tile := drawTile(s, 60, &roll)
				want, _ := wantedBytes(s, tables, tile)
				puts(t, "edge", s, tables, tile, want, api.OK)
				gets(t, "edge", s, tables, want, tile, len(want), api.OK)
			}
		}
	}
}

// TestP14_2PutWithRestarts: behind each number of units that makes a difference.
func TestP14_2PutWithRestarts(t *testing.T) {
	roll := dice(9)
	for _, s := range append(scans(), few()...) {
		if len(spots(s)) > 200 {
			continue
		}
		tables := enough(&roll)
		for _, s.Restart = range restarts(s) {
			tile := drawTile(s, 30, &roll)
			want, e := wantedBytes(s, tables, tile)
			if e != api.OK {
				t.Fatal(e)
			}
			puts(t, "restarts", s, tables, tile, want, api.OK)
			gets(t, "restarts", s, tables, want, tile, len(want), api.OK)
		}
	}
}

// TestP14_2MoreThan8Restarts: the numbers of the markers begin again.
func TestP14_2MoreThan8Restarts(t *testing.T) {
	s := api.Scan{W: 128, H: 16, Restart: 1}
	tables := api.Tables{DC: [2]api.Spec{spec([]int{0, 1, 0, 1}, 0, 4)}, AC: [2]api.Spec{single(0)}}
	// Each block begins anew, so that all of them have the difference 9, but for
	// one that is 0.
	tile := firsts(slices.Repeat([]int{9}, 32))
	tile.Parts[0][30][0] = 0
	var want []byte
	for i := range 32 {
		if i > 0 {
			want = append(want, 0xff, []byte{0xd0, 0xd1, 0xd2, 0xd3, 0xd4, 0xd5, 0xd6, 0xd7}[(i-1)%8])
		}
		if i == 30 {
			want = append(want, bitsOf("00 0")...)
		} else {
			want = append(want, bitsOf("0100 1001 0")...)
		}
	}
	puts(t, "31 restarts", s, tables, tile, want, api.OK)
	gets(t, "31 restarts", s, tables, want, tile, len(want), api.OK)
	s = api.Scan{W: 128, H: 128, Kind: api.Full, Restart: 1}
	all, roll := short(), dice(10)
	tile = drawTile(s, 64, &roll)
	want, _ = wantedBytes(s, all, tile)
	puts(t, "255 restarts", s, all, tile, want, api.OK)
	gets(t, "255 restarts", s, all, want, tile, len(want), api.OK)
}

// TestP14_2Stuffed: bytes ff inside a scan are no markers, whether bits or what
// fills the last byte up make them so.
func TestP14_2Stuffed(t *testing.T) {
	tables := api.Tables{DC: [2]api.Spec{spec([]int{1, 1, 1}, 0, 1, 10)}, AC: [2]api.Spec{single(0)}}
	s := api.Scan{W: 16, H: 8}
	// 110 1111111111 0, 10 0 0
	want := []byte{0xdf, 0xfa, 0x3f}
	puts(t, "not stuffed", s, tables, firsts([]int{1023, 1022}), want, api.OK)
	tables.DC[0] = spec([]int{0, 0, 0, 1, 0, 1}, 0, 10) // 0000 000100
	want = bitsOf("000100 1111111111 0", "0000 0")
	if !slices.Contains(want, 0xff) {
		t.Error("no ff")
	}
	puts(t, "stuffed", s, tables, firsts([]int{1023, 1023}), want, api.OK)
	gets(t, "stuffed", s, tables, want, firsts([]int{1023, 1023}), len(want), api.OK)
}

// TestP14_2EndsInFF: of each number of bits behind the last whole byte, scans
// whose last byte is ff, by what fills it up or without it.
func TestP14_2EndsInFF(t *testing.T) {
	found := map[int]bool{}
	for size := 1; size <= 10; size++ {
		for ahead := range 8 {
			// Of so many blocks, the last has 1 bits alone at its last position.
			s := api.Scan{W: 8, H: 8 * (ahead + 1), Restart: ahead % 3}
			tile := zeros(s)
			last := &tile.Parts[0][ahead]
			for _, at := range order[1:] {
				last[at] = 1
			}
			last[63] = 1<<size - 1
			tables := api.Tables{DC: [2]api.Spec{single(0)}, AC: [2]api.Spec{spec([]int{0, 3}, 0, 1, size)}}
			if size == 1 {
				tables.AC[0] = spec([]int{0, 3}, 0, 2, 1)
			}
			want, e := wantedBytes(s, tables, tile)
			if e != api.OK {
				t.Fatal(e)
			}
			puts(t, "ends in ones", s, tables, tile, want, api.OK)
			for _, more := range [][]byte{nil, {0}, {0xff}, {0xff, 0xd9}} {
				gets(t, "ends in ones", s, tables, slices.Concat(want, more), tile, len(want), api.OK)
			}
			if n := len(want); want[n-2] == 0xff && want[n-1] == 0 {
				found[size] = true
			}
		}
	}
	if len(found) < 8 {
		t.Error("scans that end in ff:", found)
	}
}

// TestP14_2TilesThatAreNot: ErrArg, whatever the tables are.
func TestP14_2TilesThatAreNot(t *testing.T) {
	roll := dice(11)
	for _, s := range few() {
		good := drawTile(s, 9, &roll)
		for _, bad := range notTiles(s, good) {
			puts(t, "no tile", s, enough(&roll), bad, nil, api.ErrArg)
			puts(t, "no tile and no tables", s, api.Tables{}, bad, nil, api.ErrArg)
		}
	}
	for _, s := range notScans() {
		for _, tile := range tilesOfNoHeader() {
			puts(t, "no header", s, short(), tile, nil, api.ErrArg)
			puts(t, "no header and no tables", s, api.Tables{}, tile, nil, api.ErrArg)
		}
	}
}

// eachTable is a table of tables, one after another.
func eachTable(t *api.Tables) []*api.Spec {
	return []*api.Spec{&t.DC[0], &t.AC[0], &t.DC[1], &t.AC[1]}
}

// TestP14_2TablesThatAreNot: those of brightness always, those of colour unless
// the kind is Grey; ahead of a code that is missing.
func TestP14_2TablesThatAreNot(t *testing.T) {
	roll := dice(12)
	for _, s := range few() {
		tile := drawTile(s, 9, &roll)
		for _, bad := range notSpecs() {
			for i := range 4 {
				for _, tables := range []api.Tables{enough(&roll), {DC: [2]api.Spec{single(9), single(9)}, AC: [2]api.Spec{single(9), single(9)}}} {
					want, e := wantedBytes(s, tables, tile)
					*eachTable(&tables)[i] = bad
					if i < 2 || s.Kind != api.Grey {
						want, e = nil, api.ErrForm
					}
					puts(t, "one table", s, tables, tile, want, e)
				}
			}
		}
		puts(t, "no tables", s, api.Tables{}, tile, nil, api.ErrForm)
	}
}

// TestP14_2StepsAreNotUsed: whatever they are.
func TestP14_2StepsAreNotUsed(t *testing.T) {
	roll := dice(13)
	for _, s := range few() {
		tables, tile := enough(&roll), drawTile(s, 9, &roll)
		want, _ := wantedBytes(s, tables, tile)
		tables.Steps = steps
		puts(t, "steps", s, tables, tile, want, api.OK)
		gets(t, "steps", s, tables, want, tile, len(want), api.OK)
	}
}

// without is a table that lacks a value.
func without(s api.Spec, value int) api.Spec {
	at := 0
	for i, count := range s.Bits {
		for range count {
			if s.Vals[at] == value {
				s.Bits[i]--
				s.Vals = slices.Delete(slices.Clone(s.Vals), at, at+1)
				return s
			}
			at++
		}
	}
	return s
}

// TestP14_2WithoutACode: of each table, codes that the first block needs, or a
// later one, or none.
func TestP14_2WithoutACode(t *testing.T) {
	roll := dice(14)
	for _, s := range few() {
		tile, tables := drawTile(s, 60, &roll), enough(&roll)
		used := map[[2]int]bool{}
		for _, run := range runs(s) {
			prev := map[int]int{}
			for _, p := range run {
				b := tile.Parts[p.part][p.at]
				for _, x := range symbolsOf(prev[p.part], b) {
					key := [2]int{2 * min(p.part, 1), x.value}
					if x.ac {
						key[0]++
					}
					used[key] = true
				}
				prev[p.part] = b[0]
			}
		}
		for i := range 4 {
			for _, value := range eachTable(&tables)[i].Vals {
				less := tables
				*eachTable(&less)[i] = without(*eachTable(&tables)[i], value)
				want, e := wantedBytes(s, less, tile)
				if used[[2]int{i, value}] != (e == api.ErrCode) {
					t.Fatal("the test is wrong:", s, i, value, e)
				}
				puts(t, "without a code", s, less, tile, want, e)
			}
		}
	}
}

// TestP14_2WithoutACodeByHand: the first, a middle and the last block needs it.
func TestP14_2WithoutACodeByHand(t *testing.T) {
	tables := api.Tables{DC: [2]api.Spec{spec([]int{0, 2}, 0, 3)}, AC: [2]api.Spec{single(0)}}
	s := api.Scan{W: 32, H: 8}
	puts(t, "all codes", s, tables, firsts([]int{4, 4, 0, 0}), bitsOf("01 100 0", "00 0", "01 011 0", "00 0"), api.OK)
	for _, l := range [][]int{{1, 1, 1, 1}, {0, 1, 1, 1}, {0, 4, 4, 3}, {0, 4, 0, -8}} {
		puts(t, "a code is missing", s, tables, firsts(l), nil, api.ErrCode)
	}
	puts(t, "needed without a restart", s, tables, firsts([]int{0, 4, 5, 0}), nil, api.ErrCode)
	puts(t, "not needed without a restart", s, tables, firsts([]int{4, 4, 8, 8}), bitsOf("01 100 0", "00 0", "01 100 0", "00 0"), api.OK)
	s.Restart = 2
	want := slices.Concat(bitsOf("00 0", "01 100 0"), []byte{0xff, 0xd0}, bitsOf("01 101 0", "01 010 0"))
	puts(t, "not needed with a restart", s, tables, firsts([]int{0, 4, 5, 0}), want, api.OK)
	puts(t, "needed with a restart", s, tables, firsts([]int{4, 4, 8, 8}), nil, api.ErrCode)
}

// TestP14_3Get: what was put, with nothing and with other bytes behind it.
func TestP14_3Get(t *testing.T) {
	roll := dice(15)
	for _, s := range few() {
		for _, rare := range []int{1, 5, 40} {
			tables, tile := enough(&roll), drawTile(s, rare, &roll)
			b, _ := wantedBytes(s, tables, tile)
			for _, more := range behind(&roll) {
				gets(t, "with others behind", s, tables, slices.Concat(b, more), tile, len(b), api.OK)
			}
		}
	}
}

// behind is bytes that may follow a scan: none, markers, those that are no bits,
// and any others.
func behind(roll *dice) [][]byte {
	l := [][]byte{nil, {0}, {0xff}, {0xff, 0}, {0xff, 0xff}, {0xff, 0xd9}, {0xff, 0xd0}, {0xff, 0xd8, 0}, {0, 0, 0xff}}
	for n := range 20 {
		l = append(l, drawBytes(n, roll))
	}
	return l
}

// drawBytes is n bytes at random, many of them ff.
func drawBytes(n int, roll *dice) []byte {
	b := make([]byte, n)
	for i := range b {
		b[i] = byte(max(roll.below(320)-64, 0))
		if roll.below(5) == 0 {
			b[i] = 255
		}
	}
	return b
}

// TestP14_3WhereTheBitsEnd: behind the byte of the last bit, and behind the 00
// that follows it if it is ff.
func TestP14_3WhereTheBitsEnd(t *testing.T) {
	s := api.Scan{W: 8, H: 8}
	for size := range 17 {
		for ahead := range 17 {
			if size == 0 || ahead == 0 {
				continue
			}
			var dc, ac api.Spec
			dc.Bits[ahead-1], dc.Vals = 1, []int{0}
			ac.Bits[size-1], ac.Vals = 1, []int{0}
			tables := api.Tables{DC: [2]api.Spec{dc}, AC: [2]api.Spec{ac}}
			for _, more := range []int{0, 1, 2, 9} {
				gets(t, "zeros", s, tables, make([]byte, cover(ahead+size, 8)+more), zeros(s), cover(ahead+size, 8), api.OK)
			}
			refuses(t, "a byte less", s, tables, make([]byte, cover(ahead+size, 8)-1), api.ErrShort)
		}
	}
	tables := api.Tables{DC: [2]api.Spec{spec([]int{0, 0, 0, 0, 0, 1}, 10)}, AC: [2]api.Spec{spec([]int{1, 1}, 0x3a, 0)}}
	tile := firsts([]int{1023})
	tile.Parts[0][0][order[4]] = 1023
	// 0000 0011 1111 1111 is the first number, 0 1111 1111 11 the fourth one, and
	// 10 the end.
	b := bitsOf("000000 1111111111", "0 1111111111", "10")
	if want := []byte{0x03, 0xff, 0, 0x7f, 0xf7}; !slices.Equal(b, want) {
		t.Errorf("%x", b)
	}
	gets(t, "ff 00 inside", s, tables, b, tile, 5, api.OK)
	// The last bit is that of a number at the last position, and of ff.
	tables.AC[0] = spec([]int{1, 1}, 0xe9, 0xf0)
	tile = firsts([]int{1023})
	tile.Parts[0][0][63] = 511
	b = bitsOf("000000 1111111111", "10 10 10", "0 111111111")
	if want := []byte{0x03, 0xff, 0, 0xa9, 0xff, 0}; !slices.Equal(b, want) {
		t.Errorf("%x", b)
	}
	puts(t, "ff 00 at the end", s, tables, tile, b, api.OK)
	for _, more := range [][]byte{nil, {0}, {0, 0}, {0xff}, {0xff, 0xd9}} {
		gets(t, "ff 00 at the end", s, tables, slices.Concat(b, more), tile, 6, api.OK)
	}
	refuses(t, "ff at the end", s, tables, b[:5], api.ErrShort)
	refuses(t, "a marker at the end", s, tables, append(b[:5:5], 0xd9), api.ErrMark)
}

// TestP14_3FillsAreNotRead: the bits behind the last one, ahead of a restart and
// at the end, may be any.
func TestP14_3FillsAreNotRead(t *testing.T) {
	tables := api.Tables{DC: [2]api.Spec{single(0)}, AC: [2]api.Spec{single(0)}}
	s := api.Scan{W: 16, H: 8, Restart: 1}
	for first := range 0x40 {
		for second := range 0x40 {
			gets(t, "any fill", s, tables, []byte{byte(first), 0xff, 0xd0, byte(second), 0x55}, zeros(s), 4, api.OK)
		}
	}
}

// TestP14_3CutShort: at every byte.
func TestP14_3CutShort(t *testing.T) {
	roll := dice(16)
	for _, s := range few() {
		for _, rare := range []int{10, 60} {
			tables, tile := enough(&roll), drawTile(s, rare, &roll)
			b, _ := wantedBytes(s, tables, tile)
			for n := range b {
				refuses(t, "cut short", s, tables, b[:n], api.ErrShort)
			}
		}
	}
}

// TestP14_3RestartsByHand: markers where one is due, and others there.
func TestP14_3RestartsByHand(t *testing.T) {
	tables := api.Tables{DC: [2]api.Spec{single(0)}, AC: [2]api.Spec{single(0)}}
	s := api.Scan{W: 24, H: 8, Restart: 1}
	good := []byte{0x3f, 0xff, 0xd0, 0x3f, 0xff, 0xd1, 0x3f}
	gets(t, "markers", s, tables, good, zeros(s), 7, api.OK)
	for code := range 0x100 {
		for at, due := range map[int]int{2: 0xd0, 5: 0xd1} {
			b := slices.Clone(good)
			b[at] = byte(code)
			switch code {
			case due:
				gets(t, "the marker", s, tables, b, zeros(s), 7, api.OK)
			case 0x00, 0xff:
				refuses(t, "no marker", s, tables, b, api.ErrForm)
			default:
				refuses(t, "another marker", s, tables, b, api.ErrMark)
			}
		}
		if code != 0xff {
			b := slices.Clone(good)
			b[1] = byte(code)
			refuses(t, "no mark", s, tables, b, api.ErrForm)
		}
	}
	for _, c := range []struct {
		b []byte
		e api.Errno
	}{
		{nil, api.ErrShort},
		{[]byte{0x3f}, api.ErrShort},
		{[]byte{0x3f, 0xff}, api.ErrShort},
		{[]byte{0x3f, 0x3f}, api.ErrShort},
		{[]byte{0x3f, 0x3f, 0x3f}, api.ErrForm},
		{[]byte{0x3f, 0xd0, 0x3f}, api.ErrForm},
		{[]byte{0x3f, 0xff, 0xd0}, api.ErrShort},
		{[]byte{0x3f, 0xff, 0xd0, 0xff}, api.ErrShort},
		{[]byte{0x3f, 0xff, 0xd0, 0xff, 0xd1}, api.ErrMark},
		{[]byte{0x3f, 0xff, 0xd0, 0x3f, 0xff, 0xd0, 0x3f}, api.ErrMark},
		{[]byte{0x3f, 0xff, 0xd1, 0x3f, 0xff, 0xd2, 0x3f}, api.ErrMark},
		{[]byte{0x3f, 0xff, 0xff, 0xd0, 0x3f, 0xff, 0xd1, 0x3f}, api.ErrForm},
		{[]byte{0x3f, 0x00, 0xff, 0xd0, 0x3f, 0xff, 0xd1, 0x3f}, api.ErrForm},
		{[]byte{0xff, 0xd0, 0x3f, 0xff, 0xd1, 0x3f}, api.ErrMark},
		{[]byte{0x3f, 0xff, 0xd0, 0x3f, 0x3f}, api.ErrShort},
		{[]byte{0x3f, 0xff, 0xd0, 0x3f, 0x3f, 0xff}, api.ErrForm},
	} {
		refuses(t, "by hand", s, tables, c.b, c.e)
	}
	tables.DC[0] = spec([]int{0, 1, 1}, 1, 7)
	tile := firsts([]int{127, 126, 125})
	s.Restart = 2
	b := slices.Concat(bitsOf("010 1111111 0", "00 0 0"), []byte{0xff, 0xd0}, bitsOf("010 1111101 0"))
	gets(t, "behind a restart prev is 0", s, tables, b, tile, len(b), api.OK)
	s.Restart = 0
	refuses(t, "a restart where none is due", s, tables, b, api.ErrMark)
}

// TestP14_3RestartWhereNoneIsDue: a marker where bits are due.
func TestP14_3RestartWhereNoneIsDue(t *testing.T) {
	eight := spec([]int{0, 0, 0, 1}, 0)
	tables := api.Tables{DC: [2]api.Spec{eight, eight}, AC: [2]api.Spec{eight, eight}}
	b := []byte{0, 0xff, 0xd0, 0, 0xff, 0xd1, 0}
	s := api.Scan{W: 1, H: 1, Kind: api.Full}
	refuses(t, "inside a unit", s, tables, b, api.ErrMark)
	s.Restart = 1
	refuses(t, "inside a unit", s, tables, b, api.ErrMark)
	s = api.Scan{W: 24, H: 8, Restart: 1}
	gets(t, "where it is due", s, tables, b, zeros(s), 7, api.OK)
	for _, s.Restart = range []int{0, 2, 3, 4} {
		refuses(t, "where it is not due", s, tables, b, api.ErrMark)
	}
	// Behind the last unit none is due, and none is read.
	s.W, s.Restart = 16, 1
	gets(t, "behind the last unit", s, tables, b, zeros(s), 4, api.OK)
	s.W, s.Restart = 8, 1
	gets(t, "behind the last unit", s, tables, b, zeros(s), 1, api.OK)
	gets(t, "behind the last unit", s, tables, b[:1], zeros(s), 1, api.OK)
}

// TestP14_3OtherRestarts: what was put with restarts is read with others.
func TestP14_3OtherRestarts(t *testing.T) {
	roll := dice(17)
	outcomes := map[api.Errno]int{}
	for kind := range 4 {
		for range 10 {
			s := api.Scan{W: 1 + roll.below(60), H: 1 + roll.below(60), Kind: kind}
			tables, tile := enough(&roll), drawTile(s, 30+roll.below(60), &roll)
			for _, s.Restart = range restarts(s) {
				b := put(t, s, tables, tile)
				for _, restart := range restarts(s) {
					other := s
					other.Restart = restart
					outcomes[reading(t, "other restarts", other, tables, b)]++
				}
			}
		}
	}
	for _, e := range []api.Errno{api.OK, api.ErrForm, api.ErrMark} {
		if outcomes[e] < 50 {
			t.Error("outcome", e, "came", outcomes[e], "times")
		}
	}
}

// TestP14_3AnyBytes: scans with bytes changed, left out or put in, and bytes at
// random.
func TestP14_3AnyBytes(t *testing.T) {
	roll := dice(18)
	outcomes := map[api.Errno]int{}
	for i := range 3600 {
		s := api.Scan{W: 1 + roll.below(40), H: 1 + roll.below(24), Kind: roll.below(4), Restart: roll.below(5)}
		var tables api.Tables
		switch roll.below(3) {
		case 0:
			tables = short()
		case 1:
			tables = enough(&roll)
		case 2:
			tables = all(&roll)
		}
		b, _ := wantedBytes(s, tables, drawTile(s, 1+roll.below(90), &roll))
		at := roll.below(len(b))
		switch i % 6 {
		case 0:
			b[at] = drawBytes(1, &roll)[0]
		case 1:
			b = slices.Delete(b, at, at+1)
		case 2:
			b = slices.Insert(b, at, drawBytes(1, &roll)...)
		case 3:
			b[at] ^= 1 << roll.below(8)
		case 4:
			b = slices.Insert(b, at, 0xff, byte(0xd0+roll.below(10)))
		case 5:
			b = drawBytes(roll.below(200), &roll)
		}
		outcomes[reading(t, "any", s, tables, b)]++
	}
	for _, e := range []api.Errno{api.OK, api.ErrShort, api.ErrForm, api.ErrMark, api.ErrCode} {
		if outcomes[e] < 100 {
			t.Error("outcome", e, "came", outcomes[e], "times")
		}
	}
}

// TestP14_3EveryByte: each byte of some scans changed, left out, or with one put
// in ahead of it.
func TestP14_3EveryByte(t *testing.T) {
	roll := dice(19)
	for _, s := range few() {
		tables, tile := short(), drawTile(s, 80, &roll)
		b := put(t, s, tables, tile)
		for at := range b {
			for _, n := range []byte{0, 0xff, b[at] ^ 1<<roll.below(8)} {
				changed := slices.Clone(b)
				changed[at] = n
				reading(t, "one byte changed", s, tables, changed)
			}
			reading(t, "one byte put in", s, tables, slices.Insert(slices.Clone(b), at, drawBytes(1, &roll)...))
			reading(t, "one byte left out", s, tables, slices.Delete(slices.Clone(b), at, at+1))
		}
	}
}

// TestP14_3HeadersThatAreNot: ErrArg, whatever the tables and the bytes are.
func TestP14_3HeadersThatAreNot(t *testing.T) {
	for _, s := range notScans() {
		for _, b := range [][]byte{nil, make([]byte, 100), {0xff, 0xd9}} {
			refuses(t, "no header", s, short(), b, api.ErrArg)
			refuses(t, "no header and no tables", s, api.Tables{}, b, api.ErrArg)
		}
	}
}

// TestP14_3TablesThatAreNot: those of brightness always, those of colour unless
// the kind is Grey; whatever the bytes are.
func TestP14_3TablesThatAreNot(t *testing.T) {
	roll := dice(20)
	for _, s := range few() {
		tables, tile := enough(&roll), drawTile(s, 9, &roll)
		b := put(t, s, tables, tile)
		for _, bad := range notSpecs() {
			for i := range 4 {
				one := tables
				*eachTable(&one)[i] = bad
				if i >= 2 && s.Kind == api.Grey {
					gets(t, "colour of Grey", s, one, b, tile, len(b), api.OK)
					refuses(t, "colour of Grey", s, one, b[:1], api.ErrShort)
					continue
				}
				for _, c := range [][]byte{b, b[:1], nil, {0xff, 0xd9}} {
					refuses(t, "one table", s, one, c, api.ErrForm)
				}
			}
		}
		refuses(t, "no tables", s, api.Tables{}, b, api.ErrForm)
	}
}

// TestP14_3FirstError: the first error along the scan is told, of several.
func TestP14_3FirstError(t *testing.T) {
	tables := api.Tables{
		DC: [2]api.Spec{spec([]int{0, 2}, 0, 12), spec([]int{0, 2}, 0, 12)}, // 00, and 01 that is no size
		AC: [2]api.Spec{spec([]int{0, 2}, 0, 0x0b), spec([]int{0, 2}, 0, 0x0b)},
	}
	s := api.Scan{W: 24, H: 8, Restart: 1}
	fine, noSize, noNumber, noCode := "0000 1111", "01 111111", "0001 1111", "1111 1110 1111 1110 1111 1110"
	first, second, other := []byte{0xff, 0xd0}, []byte{0xff, 0xd1}, []byte{0xff, 0xd9}
	for _, c := range []struct {
		what  string
		e     api.Errno
		parts [][]byte
	}{
		{"none", api.OK, [][]byte{bitsOf(fine), first, bitsOf(fine), second, bitsOf(fine)}},
		{"a size, then a marker", api.ErrForm, [][]byte{bitsOf(noSize), other, bitsOf(fine)}},
		{"a size, then a code", api.ErrForm, [][]byte{bitsOf(noSize), first, bitsOf(noCode)}},
		{"a symbol, then a code", api.ErrForm, [][]byte{bitsOf(noNumber), first, bitsOf(noCode)}},
		{"a code, then a size", api.ErrCode, [][]byte{bitsOf(noCode), first, bitsOf(noSize)}},
		{"a code, then a marker", api.ErrCode, [][]byte{bitsOf(noCode), other, bitsOf(fine)}},
		{"a code, then too few bytes", api.ErrCode, [][]byte{bitsOf(noCode)}},
		{"a marker, then a code", api.ErrMark, [][]byte{bitsOf(fine), other, bitsOf(noCode)}},
		{"a marker, then a size", api.ErrMark, [][]byte{bitsOf(fine), second, bitsOf(noSize)}},
		{"a marker, then too few bytes", api.ErrMark, [][]byte{bitsOf(fine), second}},
		{"no marker, then a code", api.ErrForm, [][]byte{bitsOf(fine), bitsOf(noCode)}},
		{"no marker, then another one", api.ErrForm, [][]byte{bitsOf(fine), {0}, other, bitsOf(noCode)}},
		{"a code in the second run, then a marker", api.ErrCode, [][]byte{bitsOf(fine), first, bitsOf(noCode), first, bitsOf(fine)}},
		{"a marker ahead of the third run, then a code", api.ErrMark, [][]byte{bitsOf(fine), first, bitsOf(fine), first, bitsOf(noCode)}},
		{"a size in the third run, then others", api.ErrForm, [][]byte{bitsOf(fine), first, bitsOf(fine), second, bitsOf(noSize), other}},
		{"a code in the third run, then others", api.ErrCode, [][]byte{bitsOf(fine), first, bitsOf(fine), second, bitsOf(noCode), other}},
		{"a code that is cut off by a marker", api.ErrMark, [][]byte{bitsOf(fine), first, bitsOf("1111 1110"), second, bitsOf(fine)}},
	} {
		b := slices.Concat(c.parts...)
		if c.e == api.OK {
			gets(t, c.what, s, tables, b, zeros(s), len(b), api.OK)
		} else {
			refuses(t, c.what, s, tables, b, c.e)
		}
	}
	s = api.Scan{W: 1, H: 1, Kind: api.Full}
	refuses(t, "of colour", s, tables, bitsOf("0000", "0000", noSize), api.ErrForm)
	refuses(t, "of colour", s, tables, bitsOf("0000", noCode), api.ErrCode)
	refuses(t, "of colour", s, tables, bitsOf("0000", noSize, noCode), api.ErrForm)
}

// TestP14_3NumbersOutOfRange: a difference that leads beyond the range of a
// block, of each component.
func TestP14_3NumbersOutOfRange(t *testing.T) {
	tables := api.Tables{
		DC: [2]api.Spec{spec([]int{0, 3}, 0, 1, 10), spec([]int{0, 3}, 0, 1, 10)}, // 00 01 10
		AC: [2]api.Spec{single(0), single(0)},
	}
	up, down, more, less, none := "10 1111111111 0", "10 0000000000 0", "01 1 0", "01 0 0", "00 0"
	s := api.Scan{W: 16, H: 8}
	gets(t, "at the bound", s, tables, bitsOf(up, none), firsts([]int{1023, 1023}), 2, api.OK)
	refuses(t, "beyond the bound", s, tables, bitsOf(up, more), api.ErrForm)
	refuses(t, "beyond the bound", s, tables, bitsOf(down, less), api.ErrForm)
	s.Restart = 1
	b := slices.Concat(bitsOf(up), []byte{0xff, 0xd0}, bitsOf(more))
	gets(t, "behind a restart", s, tables, b, firsts([]int{1023, 1}), len(b), api.OK)
	s = api.Scan{W: 16, H: 8, Kind: api.Full}
	gets(t, "each component has its own", s, tables, bitsOf(up, down, more, less, more, more), firsts([]int{1023, 1022}, []int{-1023, -1022}, []int{1, 2}), 6, api.OK)
	refuses(t, "of the third", s, tables, bitsOf(more, more, up, more, more, more), api.ErrForm)
	refuses(t, "of the second", s, tables, bitsOf(more, down, up, more, less, less), api.ErrForm)
	refuses(t, "of the first", s, tables, bitsOf(up, down, up, more, more, less), api.ErrForm)
}

// TestP14_4: tiles that were put are read back, whatever follows.
func TestP14_4(t *testing.T) {
	roll := dice(21)
	for _, s := range append(scans(), few()...) {
		for _, s.Restart = range restarts(s) {
			rare := 1 + roll.below(80)
			if len(spots(s)) > 200 {
				rare += 40
			}
			tables, tile := enough(&roll), drawTile(s, rare, &roll)
			b := put(t, s, tables, tile)
			more := behind(&roll)
			gets(t, "there and back", s, tables, b, tile, len(b), api.OK)
			gets(t, "there and back, with others behind", s, tables, slices.Concat(b, more[roll.below(len(more))]), tile, len(b), api.OK)
		}
	}
}

// TestP14_4AnyHeader: of headers at random, by tables that suit the tile, that
// are enough, or that have all codes.
func TestP14_4AnyHeader(t *testing.T) {
	roll := dice(22)
	for range 400 {
		s := api.Scan{W: 1 + roll.below(70), H: 1 + roll.below(50), Kind: roll.below(4), Restart: roll.below(8)}
		tile := drawTile(s, 1+roll.below(80), &roll)
		for _, tables := range []api.Tables{enough(&roll), all(&roll), tune(t, s, []api.Tile{tile})} {
			b := put(t, s, tables, tile)
			gets(t, "there and back", s, tables, slices.Concat(b, drawBytes(roll.below(9), &roll)), tile, len(b), api.OK)
		}
	}
}

// TestP14_5: tables that were tuned have codes for all of their tiles.
func TestP14_5(t *testing.T) {
	roll := dice(23)
	for _, s := range append(scans(), few()...) {
		s.Restart = restarts(s)[roll.below(len(restarts(s)))]
		var l []api.Tile
		for range 3 {
			rare := 1 + roll.below(90)
			if len(spots(s)) > 200 {
				rare += 40
			}
			l = append(l, drawTile(s, rare, &roll))
		}
		together := tune(t, s, l)
		for _, tile := range l {
			for _, tables := range []api.Tables{together, tune(t, s, []api.Tile{tile})} {
				want, e := wantedBytes(s, tables, tile)
				if e != api.OK {
					t.Fatal("no code:", s)
				}
				puts(t, "tuned", s, tables, tile, want, api.OK)
				gets(t, "tuned", s, tables, want, tile, len(want), api.OK)
			}
		}
	}
}

// TestP14_5Best: no other tables make the scan of a tile shorter.
func TestP14_5Best(t *testing.T) {
	roll := dice(24)
	for range 100 {
		s := api.Scan{W: 1 + roll.below(70), H: 1 + roll.below(50), Kind: roll.below(4)}
		tile := drawTile(s, 1+roll.below(60), &roll)
		least := plain(put(t, s, tune(t, s, []api.Tile{tile}), tile))
		for range 5 {
			if n := plain(put(t, s, enough(&roll), tile)); n < least {
				t.Error("tuned to", s, least, "bytes, and otherwise", n)
			}
		}
	}
}

// plain is how many bytes a scan has without those that are stuffed in.
func plain(b []byte) (n int) {
	for i, x := range b {
		if i == 0 || x != 0 || b[i-1] != 0xff {
			n++
		}
	}
	return n
}

// roomy is numbers with room behind them.
func roomy[T any](l []T) []T {
	var other T
	out := append(slices.Clone(l), other, other, other, other)
	return out[:len(l)]
}

// roomyTile is a tile with room behind its parts, and behind their blocks.
func roomyTile(t api.Tile) (c api.Tile) {
	for _, part := range t.Parts {
		c.Parts = append(c.Parts, roomy(part))
	}
	c.Parts = roomy(c.Parts)
	return c
}

// roomyTables is tables with room behind their values.
func roomyTables(t api.Tables) api.Tables {
	for i := range 2 {
		t.DC[i].Vals, t.AC[i].Vals = roomy(t.DC[i].Vals), roomy(t.AC[i].Vals)
	}
	return t
}

// beyond is a list up to its capacity, in memory of its own.
func beyond[T any](l []T) []T { return slices.Clone(l[:cap(l)]) }

// keptTile is what a tile's lists hold, up to their capacity.
func keptTile(t api.Tile) (l [][]api.Block) {
	for _, part := range t.Parts[:cap(t.Parts)] {
		l = append(l, beyond(part))
	}
	return l
}

// keptTables is what the lists of tables hold, up to their capacity.
func keptTables(t api.Tables) (l [][]int) {
	for _, s := range eachTable(&t) {
		l = append(l, beyond(s.Vals))
	}
	return l
}

// sameLists tells whether lists of lists are the same.
func sameLists[T comparable](a, b [][]T) bool {
	return slices.EqualFunc(a, b, func(c, d []T) bool { return slices.Equal(c, d) })
}

// TestKept: what the calls are given stays as it was, and behind its end too,
// whether they tell a result or an error.
func TestKept(t *testing.T) {
	roll := dice(25)
	for _, s := range few() {
		tile, tables := roomyTile(drawTile(s, 9, &roll)), roomyTables(enough(&roll))
		bad := roomyTile(copiedTile(tile))
		bad.Parts[len(bad.Parts)-1][0][5] = 5000
		less := roomyTables(copiedTables(tables))
		less.AC[0].Vals[0] = less.AC[0].Vals[1]
		b := roomy(put(t, s, tables, tile))
		l := roomy([]api.Tile{tile, tile, bad})
		parts, worse, values, fewer, bytes := keptTile(tile), keptTile(bad), keptTables(tables), keptTables(less), beyond(b)

		scan.Right(s, tile)
		scan.Right(s, bad)
		scan.Tune(s, l, steps)
		scan.Tune(s, l[:2], steps)
		scan.Put(s, tables, tile)
		scan.Put(s, tables, bad)
		scan.Put(s, less, tile)
		scan.Put(s, api.Tables{DC: tables.DC, AC: [2]api.Spec{single(9), single(9)}}, tile)
		scan.Get(s, tables, b)
		scan.Get(s, tables, b[:len(b)/2])
		scan.Get(s, less, b)

		if !sameLists(keptTile(tile), parts) || !sameLists(keptTile(bad), worse) {
			t.Error("a tile is changed, or what is behind it")
		}
		if !sameLists(keptTables(tables), values) || !sameLists(keptTables(less), fewer) {
			t.Error("tables are changed, or what is behind them")
		}
		if !slices.Equal(beyond(b), bytes) {
			t.Error("bytes are changed, or what is behind them")
		}
		if l = l[:cap(l)]; !sameTile(l[0], tile) || !sameTile(l[1], tile) || !sameTile(l[2], bad) || len(l[3].Parts) != 0 {
			t.Error("a list of tiles is changed, or what is behind it")
		}
	}
}

// overwrite puts a value in all places of a list, up to its capacity.
func overwrite[T any](l []T, x T) {
	l = l[:cap(l)]
	for i := range l {
		l[i] = x
	}
}

// TestNewShape: what Shape tells may be written over.
func TestNewShape(t *testing.T) {
	for _, s := range scans() {
		first, second := scan.Shape(s), scan.Shape(s)
		want := slices.Clone(first)
		overwrite(first, [2]int{77, 88})
		if !slices.Equal(second, want) || !slices.Equal(scan.Shape(s), want) {
			t.Error("shapes share memory")
		}
	}
}

// TestNewBytes: what Put tells may be written over.
func TestNewBytes(t *testing.T) {
	roll := dice(26)
	for _, s := range few() {
		tile, tables := drawTile(s, 9, &roll), enough(&roll)
		before, kept := copiedTile(tile), copiedTables(tables)
		first, second := put(t, s, tables, tile), put(t, s, tables, tile)
		want := slices.Clone(first)
		overwrite(first, 99)
		puts(t, "again", s, tables, tile, want, api.OK)
		if !slices.Equal(second, want) || !sameTile(tile, before) || !sameTables(tables, kept) {
			t.Error("bytes share memory")
		}
	}
}

// TestNewTile: what Get tells shares no memory with another answer, with the
// bytes, or with itself.
func TestNewTile(t *testing.T) {
	roll := dice(27)
	for _, s := range few() {
		want, tables := drawTile(s, 9, &roll), enough(&roll)
		kept := copiedTables(tables)
		b := put(t, s, tables, want)
		before := slices.Clone(b)
		first, _, _ := scan.Get(s, tables, b)
		second, n, _ := scan.Get(s, tables, b)
		for i, part := range first.Parts {
			overwrite(part, api.Block{1000 + i})
		}
		for i, part := range first.Parts {
			if slices.ContainsFunc(part[:cap(part)], func(b api.Block) bool { return b != api.Block{1000 + i} }) {
				t.Error("parts of one tile share memory")
			}
		}
		overwrite(first.Parts, nil)
		if !sameTile(second, want) || n != len(b) || !slices.Equal(b, before) || !sameTables(tables, kept) {
			t.Error("a tile shares memory with another one, or with what was given")
		}
		gets(t, "again", s, tables, b, want, len(b), api.OK)
		overwrite(b, 0)
		for _, x := range eachTable(&tables) {
			overwrite(x.Vals, 3)
		}
		if !sameTile(second, want) {
			t.Error("a tile hangs on what was given")
		}
	}
}

// TestNewTables: what Tune tells shares no memory with another answer, or with
// itself.
func TestNewTables(t *testing.T) {
	roll := dice(28)
	for _, s := range few() {
		for _, l := range [][]api.Tile{nil, {zeros(s)}, {drawTile(s, 9, &roll)}, {drawTile(s, 9, &roll), drawTile(s, 30, &roll)}} {
			first, second := tune(t, s, l), tune(t, s, l)
			want := wantedTables(t, s, l)
			for i, x := range eachTable(&first) {
				overwrite(x.Vals, 1000+i)
			}
			for i, x := range eachTable(&first) {
				if slices.ContainsFunc(x.Vals[:cap(x.Vals)], func(n int) bool { return n != 1000+i }) {
					t.Error("tables of one answer share memory")
				}
			}
			if !sameTables(second, want) {
				t.Error("tables share memory with another answer")
			}
			tunes(t, "again", s, l, want)
		}
	}
}
