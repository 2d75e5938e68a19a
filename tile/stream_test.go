package tile_test

import (
	"slices"
	"testing"

	"clerestory/api"
	"clerestory/tile"
)

// nothing is tables with a single code each, for blocks of zeros only.
func nothing() (t api.Tables) {
	for i := range 2 {
		t.DC[i], t.AC[i] = single(0), single(0)
		for k := range t.Steps[i] {
			t.Steps[i][k] = 1 + k
		}
	}
	return t
}

// segmentOf is a segment with a body.
func segmentOf(code byte, body ...byte) []byte {
	n := 2 + len(body)
	return append([]byte{0xff, code, byte(n >> 8), byte(n)}, body...)
}

// tableBody is what c4 has of a table: its class and number, and the table.
func tableBody(name byte, s api.Spec) []byte {
	b := []byte{name}
	for _, n := range s.Bits {
		b = append(b, byte(n))
	}
	for _, n := range s.Vals {
		b = append(b, byte(n))
	}
	return b
}

// Markers that stand alone.
var (
	start  = []byte{0xff, 0xd8}
	ending = []byte{0xff, 0xd9}
)

// fourTables is c4 of each table, by itself: DC and AC of brightness, then of
// colour.
func fourTables(t api.Tables) [4][]byte {
	return [4][]byte{
		segmentOf(0xc4, tableBody(0x00, t.DC[0])...), segmentOf(0xc4, tableBody(0x10, t.AC[0])...),
		segmentOf(0xc4, tableBody(0x01, t.DC[1])...), segmentOf(0xc4, tableBody(0x11, t.AC[1])...),
	}
}

// stream is a tile's stream, which there must be.
func stream(t *testing.T, g api.Geometry, tables api.Tables, in api.Tile) []byte {
	t.Helper()
	b, e := tile.Stream(g, tables, in)
	if e != api.OK {
		t.Fatal("Stream:", g, e)
	}
	return b
}

// TestP15_4StreamByHand: zeros have two bits a block, and some numbers are worked
// out by hand.
func TestP15_4StreamByHand(t *testing.T) {
	for _, c := range []struct {
		side, kind int
		scan       []byte
	}{
		{16, api.Grey, []byte{0x00}}, {16, api.Full, make([]byte, 3)}, {16, api.Wide, make([]byte, 2)}, {16, api.Small, []byte{0x00, 0x0f}},
		{32, api.Grey, make([]byte, 4)}, {32, api.Full, make([]byte, 12)}, {32, api.Wide, make([]byte, 8)}, {32, api.Small, make([]byte, 6)},
	} {
		g := api.Geometry{W: 9, H: 9, Tile: c.side, Kind: c.kind, Quality: 50}
		want := slices.Concat(headBytes(g), c.scan, ending)
		streams(t, "zeros", g, nothing(), zeros(g), want, api.OK)
		opens(t, "zeros", g, tablesOf(t, nothing(), true), want, zeros(g), api.OK)
	}
	// The codes 00 01 10 110 of the sizes 0 to 3: 01 1 0, 10 00 0, 10 10 0, 10 11 0.
	g := api.Geometry{W: 16, H: 16, Tile: 16, Quality: 3}
	tables := nothing()
	tables.DC[0] = spec([]int{0, 3, 1}, 0, 1, 2, 3)
	in := zeros(g)
	for i, n := range []int{1, -2, 0, 3} {
		in.Parts[0][i][0] = n
	}
	want := []byte{0xff, 0xd8, 0xff, 0xc0, 0, 11, 8, 0, 16, 0, 16, 1, 1, 0x11, 0, 0xff, 0xda, 0, 8, 1, 1, 0, 0, 0x3f, 0, 0x68, 0x52, 0xdf, 0xff, 0xd9}
	streams(t, "numbers", g, tables, in, want, api.OK)
	opens(t, "numbers", g, tablesOf(t, tables, false), want, in, api.OK)
}

// TestP15_4Stream: the header, the scan and the end.
func TestP15_4Stream(t *testing.T) {
	roll := dice(21)
	for _, g := range geometries() {
		for _, in := range tilesOf(g, &roll) {
			for _, tables := range []api.Tables{enough(g, &roll), tuned(t, g, in)} {
				want, e := wantedStream(g, tables, in)
				if e != api.OK {
					t.Fatal("Put:", e)
				}
				streams(t, "stream", g, tables, in, want, api.OK)
			}
		}
	}
}

// TestP15_4StreamOfOtherFields: a stream does not hang on the size of the image,
// the quality or the steps of the tables.
func TestP15_4StreamOfOtherFields(t *testing.T) {
	roll := dice(22)
	for _, g := range few() {
		in, tables := drawTile(g, 9, 50, &roll), enough(g, &roll)
		want := stream(t, g, tables, in)
		for quality := range 5 {
			g.W, g.H, g.Quality, g.Big = 1+roll.below(128), 1+roll.below(128), 1+25*quality, !g.Big
			g.Quality = min(g.Quality, 100)
			tables.Steps = [2]api.Block{{-1, 300}, {}}
			streams(t, "other fields", g, tables, in, want, api.OK)
		}
	}
}

// TestP15_4StreamOfTilesThatAreNot: whatever the tables are.
func TestP15_4StreamOfTilesThatAreNot(t *testing.T) {
	roll := dice(23)
	for _, g := range few() {
		good := drawTile(g, 9, 50, &roll)
		for _, tables := range []api.Tables{enough(g, &roll), nothing(), {}} {
			for _, bad := range notTiles(good) {
				streams(t, "no tile", g, tables, bad, nil, api.ErrArg)
			}
			for _, other := range few() {
				if !slices.Equal(shapeOf(other), shapeOf(g)) {
					streams(t, "of another geometry", other, tables, good, nil, api.ErrArg)
				}
			}
		}
	}
	for _, g := range notGeometries() {
		for _, other := range few() {
			streams(t, "no geometry", g, enough(other, &roll), zeros(other), nil, api.ErrArg)
		}
		streams(t, "no geometry, no tables", g, api.Tables{}, api.Tile{}, nil, api.ErrArg)
	}
}

// eachTable is the Huffman tables: DC and AC of brightness, then of colour.
func eachTable(t *api.Tables) [4]*api.Spec {
	return [4]*api.Spec{&t.DC[0], &t.AC[0], &t.DC[1], &t.AC[1]}
}

// TestP15_4StreamOfTablesThatAreNot: each of the four, which are ErrForm where
// the kind uses them, and lack a code, which is ErrCode where a block needs it.
func TestP15_4StreamOfTablesThatAreNot(t *testing.T) {
	roll := dice(24)
	for _, g := range few() {
		in := drawTile(g, 3, 50, &roll)
		for i := range 4 {
			used := i < 2 || g.Kind != api.Grey
			for _, bad := range []api.Spec{{}, spec([]int{2}, 0, 1), spec([]int{0, 2}, 5, 5), spec([]int{1}, 256), spec([]int{1}, 0, 1)} {
				tables := enough(g, &roll)
				want := stream(t, g, tables, in)
				*eachTable(&tables)[i] = bad
				if used {
					streams(t, "a table that is not valid", g, tables, in, nil, api.ErrForm)
				} else {
					streams(t, "a table that is not used", g, tables, in, want, api.OK)
				}
			}
			tables := enough(g, &roll)
			want := stream(t, g, tables, in)
			*eachTable(&tables)[i] = single(0x3c)
			if used {
				streams(t, "a table without the codes", g, tables, in, nil, api.ErrCode)
			} else {
				streams(t, "a table that is not used", g, tables, in, want, api.OK)
			}
			// Where one table lacks a code and another one is not valid, that is told.
			*eachTable(&tables)[(i+1)%2] = api.Spec{}
			streams(t, "a table without the codes, and one that is not valid", g, tables, in, nil, api.ErrForm)
		}
		streams(t, "no tables", g, api.Tables{}, in, nil, api.ErrForm)
	}
}

// TestP15_4OpenOfNoGeometry: whatever the bytes are.
func TestP15_4OpenOfNoGeometry(t *testing.T) {
	for _, g := range notGeometries() {
		for _, other := range few() {
			b := stream(t, other, nothing(), zeros(other))
			shared := tablesOf(t, nothing(), true)
			refuses(t, "no geometry", g, shared, b, api.ErrArg)
			refuses(t, "no geometry, no bytes", g, nil, nil, api.ErrArg)
		}
	}
}

// TestP15_4Pieces: streams that are put together of their segments: what may
// stand where, and what is told where something is wrong.
func TestP15_4Pieces(t *testing.T) {
	roll := dice(25)
	for _, g := range few() {
		in, tables := drawTile(g, 7, 80, &roll), enough(g, &roll)
		b := stream(t, g, tables, in)
		head := len(headBytes(g))
		at := slices.Index(b, 0xda) - 1 // where the segment da begins
		shared := tablesOf(t, tables, true)
		l := fourTables(tables)
		all := slices.Concat(l[:]...)
		wrong := fourTables(nothing())
		remark := segmentOf(0xfe, 0xff, 0xd9, 1)
		opens(t, "as it was streamed", g, shared, b, in, api.OK)
		for _, c := range []struct {
			what      string
			tables, b []byte
			e         api.Errno
		}{
			{"tables in both", shared, slices.Concat(start, all, b[2:]), api.OK},
			{"tables in the stream itself", slices.Concat(start, ending), slices.Concat(start, all, b[2:]), api.OK},
			{"tables between the header's segments", slices.Concat(start, ending), slices.Concat(b[:at], all, b[at:]), api.OK},
			{"half of the tables in each", slices.Concat(start, l[0], l[3], ending), slices.Concat(start, l[2], l[1], b[2:]), api.OK},
			{"tables that others replace", slices.Concat(start, slices.Concat(wrong[:]...), ending), slices.Concat(b[:at], all, b[at:]), api.OK},
			{"tables that were others first", slices.Concat(start, slices.Concat(wrong[:]...), all, ending), b, api.OK},
			{"tables without steps", slices.Concat(start, all, ending), b, api.OK},
			{"remarks", slices.Concat(start, remark, shared[2:]), slices.Concat(start, remark, b[2:at], remark, b[at:]), api.OK},
			{"a frame in the tables", slices.Concat(start, segmentOf(0xc0, 8, 0, 1, 0, 1, 1, 1, 0x11, 0), shared[2:]), b, api.OK},
			{"a restart in the tables", slices.Concat(start, segmentOf(0xdd, 0, 5), shared[2:]), b, api.OK},
			{"a restart of 0", shared, slices.Concat(b[:at], segmentOf(0xdd, 0, 0), b[at:]), api.OK},
			{"a restart that another replaces", shared, slices.Concat(b[:at], segmentOf(0xdd, 1, 0), segmentOf(0xdd, 0, 0), b[at:]), api.OK},

			{"no tables", nil, b, api.ErrShort},
			{"one byte of tables", start[:1], b, api.ErrShort},
			{"tables that end early", shared[:len(shared)-1], b, api.ErrShort},
			{"tables without an end", shared[:len(shared)-2], b, api.ErrShort},
			{"tables without a start", shared[2:], b, api.ErrForm},
			{"tables with another start", slices.Concat(ending, shared[2:]), b, api.ErrForm},
			{"tables with a marker of another kind", slices.Concat(start, []byte{0xff, 0xd0}, shared[2:]), b, api.ErrMark},
			{"tables with a byte between", slices.Concat(start, []byte{0}, shared[2:]), b, api.ErrMark},
			{"tables with bytes behind", slices.Concat(shared, []byte{0}), b, api.ErrMore},
			{"tables with the stream behind", slices.Concat(shared, b), b, api.ErrMore},
			{"tables with a scan, and so not over", slices.Concat(start, all, b[2:]), b, api.ErrForm},
			{"a scan for tables", b, b, api.ErrForm},
			{"steps that are 0", slices.Concat(start, segmentOf(0xdb, make([]byte, 65)...), shared[2:]), b, api.ErrForm},
			{"a table without codes", slices.Concat(start, segmentOf(0xc4, make([]byte, 17)...), shared[2:]), b, api.ErrForm},

			{"no bytes", shared, nil, api.ErrShort},
			{"a start alone", shared, start, api.ErrShort},
			{"no start", shared, b[2:], api.ErrForm},
			{"no frame", shared, slices.Concat(start, b[at:]), api.ErrForm},
			{"two frames", shared, slices.Concat(b[:at], b[2:]), api.ErrForm},
			{"no scan header", shared, slices.Concat(b[:at], b[head:]), api.ErrMark},
			{"no scan header, and no scan", shared, slices.Concat(b[:at], ending), api.ErrMissing},
			{"start and end", shared, slices.Concat(start, ending), api.ErrMissing},
			{"tables again", shared, shared, api.ErrMissing},
			{"bytes behind an end", shared, slices.Concat(start, ending, b), api.ErrMore},
			{"a marker of another kind", shared, slices.Concat(b[:at], []byte{0xff, 0xd8}, b[at:]), api.ErrMark},
			{"a byte between", shared, slices.Concat(b[:at], []byte{0xd9}, b[at:]), api.ErrMark},
			{"tables that are not valid", shared, slices.Concat(start, segmentOf(0xc4, make([]byte, 17)...), b[2:]), api.ErrForm},

			{"a restart", shared, slices.Concat(b[:at], segmentOf(0xdd, 0, 1), b[at:]), api.ErrForm},
			{"a restart after the last unit", shared, slices.Concat(b[:at], segmentOf(0xdd, 0xff, 0xff), b[at:]), api.ErrForm},
			{"a restart ahead of the frame", shared, slices.Concat(start, segmentOf(0xdd, 0, 9), b[2:]), api.ErrForm},

			{"no scan", shared, slices.Concat(b[:head], ending), api.ErrMark},
			{"nothing behind the header", shared, b[:head], api.ErrShort},
			{"a byte ahead of the scan", shared, slices.Concat(b[:head], ending, b[head:]), api.ErrMark},
			{"no end", shared, b[:len(b)-2], api.ErrMark},
			{"half an end", shared, b[:len(b)-1], api.ErrMark},
			{"the other half", shared, slices.Concat(b[:len(b)-2], []byte{0xd9}), api.ErrMark},
			{"another marker", shared, slices.Concat(b[:len(b)-2], []byte{0xff, 0xd0}), api.ErrMark},
			{"a start for an end", shared, slices.Concat(b[:len(b)-2], start), api.ErrMark},
			{"no marker", shared, slices.Concat(b[:len(b)-2], []byte{0, 0xd9}), api.ErrMark},
			{"a filled marker", shared, slices.Concat(b[:len(b)-2], []byte{0xff}, ending), api.ErrMark},
			{"a byte ahead of the end", shared, slices.Concat(b[:len(b)-2], []byte{0}, ending), api.ErrMark},
			{"a byte behind the end", shared, slices.Concat(b, []byte{0}), api.ErrMark},
			{"a filled byte behind the end", shared, slices.Concat(b, []byte{0xff}), api.ErrMark},
			{"a second end", shared, slices.Concat(b, ending), api.ErrMark},
			{"a second stream", shared, slices.Concat(b, b), api.ErrMark},
		} {
			if c.e == api.OK {
				opens(t, c.what, g, c.tables, c.b, in, api.OK)
			} else {
				refuses(t, c.what, g, c.tables, c.b, c.e)
			}
			opening(t, c.what, g, c.tables, c.b)
		}
	}
}

// TestP15_4Missing: each of the Huffman tables is left out.
func TestP15_4Missing(t *testing.T) {
	roll := dice(26)
	for _, g := range few() {
		in, tables := drawTile(g, 7, 80, &roll), enough(g, &roll)
		b := stream(t, g, tables, in)
		l := fourTables(tables)
		for without := range 16 {
			var some []byte
			for i, x := range l {
				if without>>i&1 == 0 {
					some = append(some, x...)
				}
			}
			needed := without & 3
			if g.Kind != api.Grey {
				needed = without
			}
			shared := slices.Concat(start, some, ending)
			itself := slices.Concat(start, some, b[2:])
			if needed == 0 {
				opens(t, "all that are used", g, shared, b, in, api.OK)
				opens(t, "all that are used", g, slices.Concat(start, ending), itself, in, api.OK)
				continue
			}
			refuses(t, "a table is missing", g, shared, b, api.ErrMissing)
			refuses(t, "a table is missing", g, slices.Concat(start, ending), itself, api.ErrMissing)
			// Ahead of the header that is another one, and of what is wrong further on.
			other := slices.Clone(b)
			other[slices.Index(b, 0xc0)+5]++ // the second byte of H
			refuses(t, "a table is missing, and another header", g, shared, other, api.ErrMissing)
			refuses(t, "a table is missing, and no scan", g, shared, b[:len(headBytes(g))], api.ErrMissing)
			refuses(t, "a table is missing, and bytes behind", g, shared, append(other, 9), api.ErrMissing)
			// Behind what is wrong in the bytes up to the scan.
			refuses(t, "a table is missing, and a frame", g, shared, slices.Concat(start, b[slices.Index(b, 0xda)-1:]), api.ErrForm)
			refuses(t, "a table is missing, and bytes", g, shared, b[:8], api.ErrShort)
		}
		refuses(t, "steps alone", g, slices.Concat(start, segmentOf(0xdb, append([]byte{0}, slices.Repeat([]byte{7}, 64)...)...), ending), b, api.ErrMissing)
	}
}

// TestP15_4AnotherHeader: streams of another geometry, by tables with all codes.
func TestP15_4AnotherHeader(t *testing.T) {
	roll := dice(27)
	for _, g := range few() {
		tables := enough(g, &roll)
		shared := tablesOf(t, tables, true)
		for _, other := range few() {
			in := drawTile(other, 7, 80, &roll)
			b := stream(t, other, tables, in)
			if other.Tile == g.Tile && other.Kind == g.Kind {
				opens(t, "the same", g, shared, b, in, api.OK)
				continue
			}
			refuses(t, "another header", g, shared, b, api.ErrForm)
			refuses(t, "another header, and no scan", g, shared, b[:len(headBytes(other))], api.ErrForm)
			refuses(t, "another header, and bytes behind", g, shared, append(b, 0), api.ErrForm)
			other.W, other.H, other.Quality = 128, 2, 9
			refuses(t, "another header", g, shared, b, api.ErrForm)
		}
		// W and H of the frame are one off, or turned.
		b := stream(t, g, tables, drawTile(g, 7, 80, &roll))
		frame := slices.Index(b, 0xc0)
		for _, at := range []int{frame + 5, frame + 7} {
			for _, n := range []byte{1, 8, 15, 17, 31, 33, 128} {
				other := slices.Clone(b)
				other[at] = n
				refuses(t, "another side", g, shared, other, api.ErrForm)
			}
		}
		if g.Kind != api.Grey {
			// Tables of brightness alone are enough for Grey, and too few for the kind.
			grey := g
			grey.Kind = api.Grey
			less := tablesOf(t, tables, false)
			refuses(t, "of no Grey, by tables of Grey", g, less, b, api.ErrMissing)
			refuses(t, "of no Grey, for Grey", grey, less, b, api.ErrForm)
			refuses(t, "of Grey, by tables of Grey", g, less, stream(t, grey, tables, zeros(grey)), api.ErrMissing)
		}
	}
}

// TestP15_4OpenOtherFields: a tile does not hang on the size of the image or the
// quality, nor on the steps that are known.
func TestP15_4OpenOtherFields(t *testing.T) {
	roll := dice(28)
	for _, g := range few() {
		in, tables := drawTile(g, 9, 50, &roll), enough(g, &roll)
		b := stream(t, g, tables, in)
		for range 4 {
			g.W, g.H, g.Quality, g.Big = 1+roll.below(128), 1+roll.below(128), 1+roll.below(100), !g.Big
			opens(t, "other fields", g, tablesOf(t, tables, true), b, in, api.OK)
		}
	}
}

// TestP15_4Cut: a stream and its tables, cut short at every byte.
func TestP15_4Cut(t *testing.T) {
	roll := dice(29)
	for _, g := range few() {
		in, tables := drawTile(g, 20, 50, &roll), enough(g, &roll)
		b := stream(t, g, tables, in)
		shared := tablesOf(t, tables, true)
		for n := range len(b) {
			e := api.ErrShort
			if n >= len(b)-2 {
				e = api.ErrMark
			}
			refuses(t, "cut short", g, shared, b[:n], e)
		}
		for n := range len(shared) {
			refuses(t, "tables cut short", g, shared[:n], b, api.ErrShort)
			refuses(t, "tables cut short, and no stream", g, shared[:n], nil, api.ErrShort)
		}
	}
}

// TestP15_4Changed: a stream with each byte changed, left out or put in, as the
// document has it.
func TestP15_4Changed(t *testing.T) {
	roll := dice(30)
	seen := map[api.Errno]int{}
	for _, g := range few() {
		in := drawTile(g, 20, 50, &roll)
		for _, tables := range []api.Tables{enough(g, &roll), tuned(t, g, in)} {
			b := stream(t, g, tables, in)
			shared := tablesOf(t, tables, true)
			for n := range b {
				for _, x := range []byte{b[n] ^ 1<<roll.below(8), byte(roll.below(256)), 0xff, 0x00} {
					other := slices.Clone(b)
					other[n] = x
					seen[opening(t, "a byte changed", g, shared, other)]++
				}
				seen[opening(t, "a byte left out", g, shared, slices.Delete(slices.Clone(b), n, n+1))]++
				seen[opening(t, "a byte put in", g, shared, slices.Insert(slices.Clone(b), n, byte(roll.below(256))))]++
				seen[opening(t, "a marker put in", g, shared, slices.Insert(slices.Clone(b), n, 0xff, byte(0xc0+roll.below(64))))]++
			}
		}
	}
	for _, e := range []api.Errno{api.OK, api.ErrShort, api.ErrForm, api.ErrMore, api.ErrCode, api.ErrMark} {
		if seen[e] == 0 {
			t.Error("no stream was told as", e)
		}
	}
}

// TestP15_4TablesChanged: the tables with each byte changed, left out or put in.
func TestP15_4TablesChanged(t *testing.T) {
	roll := dice(31)
	for _, g := range few() {
		in := drawTile(g, 20, 50, &roll)
		tables := tuned(t, g, in)
		b := stream(t, g, tables, in)
		shared := tablesOf(t, tables, true)
		for n := range shared {
			for _, x := range []byte{shared[n] ^ 1<<roll.below(8), byte(roll.below(256)), 0xff, 0x00} {
				other := slices.Clone(shared)
				other[n] = x
				opening(t, "a byte changed", g, other, b)
			}
			opening(t, "a byte left out", g, slices.Delete(slices.Clone(shared), n, n+1), b)
			opening(t, "a byte put in", g, slices.Insert(slices.Clone(shared), n, byte(roll.below(256))), b)
		}
	}
}

// TestP15_4FirstError: where the tables and the stream are both wrong, the
// tables are told.
func TestP15_4FirstError(t *testing.T) {
	g := api.Geometry{W: 16, H: 16, Tile: 16, Kind: api.Wide, Quality: 50}
	shared := tablesOf(t, nothing(), true)
	b := stream(t, g, nothing(), zeros(g))
	head := len(headBytes(g))
	scanned := slices.Concat(start, b[2:head])
	wrong := [][]byte{nil, {1, 2}, slices.Concat(start, []byte{0}), slices.Concat(start, ending, ending), b[:head], b[:9]}
	for _, x := range wrong {
		refuses(t, "too short", g, nil, x, api.ErrShort)
		refuses(t, "too short", g, shared[:30], x, api.ErrShort)
		refuses(t, "no start", g, []byte{0xff, 0xd9}, x, api.ErrForm)
		refuses(t, "not over", g, scanned, x, api.ErrForm)
		refuses(t, "another marker", g, []byte{0xff, 0xd8, 0xff, 0xd7}, x, api.ErrMark)
		refuses(t, "bytes behind", g, append(slices.Clone(shared), 0), x, api.ErrMore)
	}
	// A code is missing, and what follows is no end; a header, and no code.
	noCode := slices.Concat(b[:head], []byte{0xfe, 0xfe, 0xfe})
	refuses(t, "a code and no end", g, shared, noCode, api.ErrCode)
	other := slices.Clone(noCode)
	other[slices.Index(b, 0xc0)+7] = 32
	refuses(t, "another header and a code", g, shared, other, api.ErrForm)
	restart := slices.Concat(b[:slices.Index(b, 0xda)-1], segmentOf(0xdd, 0, 1), noCode[slices.Index(b, 0xda)-1:])
	refuses(t, "a restart and a code", g, shared, restart, api.ErrForm)
	refuses(t, "a marker in the scan, and bytes behind", g, shared, slices.Concat(b[:head+1], []byte{0xff, 0xd0, 1, 2}), api.ErrMark)
}

// TestP15_4AnyBytes: bytes at random, and streams with such bytes for a scan.
func TestP15_4AnyBytes(t *testing.T) {
	roll := dice(32)
	draw := func(n int) (b []byte) {
		for range n {
			b = append(b, byte(roll.below(256)))
		}
		return b
	}
	for range 600 {
		for _, g := range few() {
			tables := enough(g, &roll)
			shared := tablesOf(t, tables, roll.below(3) > 0)
			opening(t, "any bytes", g, draw(roll.below(30)), draw(roll.below(30)))
			opening(t, "any bytes behind a start", g, shared, slices.Concat(start, draw(roll.below(30))))
			opening(t, "any scan", g, shared, slices.Concat(headBytes(g), draw(roll.below(300)), ending))
		}
	}
}
