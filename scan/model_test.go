package scan_test

import (
	"cmp"
	"fmt"
	"math"
	"slices"
	"strconv"
	"strings"
	"testing"

	"clerestory/api"
	"clerestory/scan"
)

// dice is a source of numbers that are the same in every run.
type dice uint64

// below is the next number, less than n.
func (d *dice) below(n int) int {
	*d = *d*6364136223846793005 + 1442695040888963407
	return int(uint64(*d)>>33) % n
}

// sized is the next number of some size, 1 at least.
func (d *dice) sized(size int) int {
	n := 1<<(size-1) + d.below(1<<(size-1))
	if d.below(2) == 0 {
		return -n
	}
	return n
}

// inUnit is how many blocks across and down a unit has of each component, by
// kinds.
var inUnit = [4][][2]int{
	api.Grey:  {{1, 1}},
	api.Full:  {{1, 1}, {1, 1}, {1, 1}},
	api.Wide:  {{2, 1}, {1, 1}, {1, 1}},
	api.Small: {{2, 2}, {1, 1}, {1, 1}},
}

// cover is how many pieces of some size cover a length, laid one by one.
func cover(length, size int) (n int) {
	for n*size < length {
		n++
	}
	return n
}

// spot is where a block stands: in which unit and of which component, in which
// row and column of that, and at which index.
type spot struct{ unit, part, y, x, at int }

// spots is where the blocks of a tile stand, in the order of the scan: all
// blocks of all components, sorted.
func spots(s api.Scan) (l []spot) {
	first := inUnit[s.Kind][0]
	across, down := cover(s.W, 8*first[0]), cover(s.H, 8*first[1])
	for part, size := range inUnit[s.Kind] {
		columns := across * size[0]
		for at := range columns * down * size[1] {
			x, y := at%columns, at/columns
			l = append(l, spot{y/size[1]*across + x/size[0], part, y, x, at})
		}
	}
	slices.SortFunc(l, func(a, b spot) int {
		return cmp.Or(cmp.Compare(a.unit, b.unit), cmp.Compare(a.part, b.part), cmp.Compare(a.y, b.y), cmp.Compare(a.x, b.x))
	})
	return l
}

// unitsOf is how many units a header's scan has.
func unitsOf(s api.Scan) int {
	l := spots(s)
	return l[len(l)-1].unit + 1
}

// runs is the spots between restarts.
func runs(s api.Scan) (l [][]spot) {
	for _, p := range spots(s) {
		i := 0
		if s.Restart > 0 {
			i = p.unit / s.Restart
		}
		if i == len(l) {
			l = append(l, nil)
		}
		l[i] = append(l[i], p)
	}
	return l
}

// zigzag is the place in a block of each position of a scan, along the diagonals.
func zigzag() (l []int) {
	for diagonal := range 15 {
		for i := range 8 {
			y := i
			if diagonal%2 == 0 {
				y = 7 - i
			}
			if x := diagonal - y; x >= 0 && x < 8 {
				l = append(l, 8*y+x)
			}
		}
	}
	return l
}

// order is the zigzag order.
var order = zigzag()

// codesOf is the codes of a table's values, as binary digits: each begins just
// behind the share of all 16 bits that the ones before it take.
func codesOf(s api.Spec) map[int]string {
	codes := map[int]string{}
	share := 0
	for i, count := range s.Bits {
		for range count {
			codes[s.Vals[len(codes)]] = fmt.Sprintf("%016b", share)[:i+1]
			share += 1 << (15 - i)
		}
	}
	return codes
}

// piece is what a scan has of a symbol: the symbol, whether it is by the AC
// table, and the bits behind it.
type piece struct {
	ac    bool
	value int
	bits  string
}

// digits is the bits of a number: the binary digits of its amount, each the
// other way round if the number is negative.
func digits(n int) string {
	if n == 0 {
		return ""
	}
	if n < 0 {
		return strings.NewReplacer("0", "1", "1", "0").Replace(digits(-n))
	}
	return strconv.FormatInt(int64(n), 2)
}

// symbolsOf is a block's symbols as the document tells them.
func symbolsOf(prev int, b api.Block) []piece {
	first := digits(b[0] - prev)
	l := []piece{{false, len(first), first}}
	last := 0 // the position of the last number that was not 0
	for i, at := range order {
		if i == 0 || b[at] == 0 {
			continue
		}
		run := i - last - 1
		for range run / 16 {
			l = append(l, piece{true, 0xf0, ""})
		}
		s := digits(b[at])
		l = append(l, piece{true, 16*(run%16) + len(s), s})
		last = i
	}
	if last < 63 {
		l = append(l, piece{true, 0x00, ""})
	}
	return l
}

// filled is the scan bytes of bits that are written as binary digits.
func filled(text string) (b []byte) {
	for len(text)%8 != 0 {
		text += "1"
	}
	for ; len(text) > 0; text = text[8:] {
		n, err := strconv.ParseUint(text[:8], 2, 8)
		if err != nil {
			panic(err)
		}
		b = append(b, byte(n))
		if n == 0xff {
			b = append(b, 0)
		}
	}
	return b
}

// bitsOf is scan bytes of bits that are written as binary digits, with blanks
// between them.
func bitsOf(texts ...string) []byte {
	return filled(strings.ReplaceAll(strings.Join(texts, ""), " ", ""))
}

// wantedBytes is the scan bytes of a valid tile by valid tables, or ErrCode if
// they lack a code.
func wantedBytes(s api.Scan, tables api.Tables, t api.Tile) ([]byte, api.Errno) {
	var out []byte
	var dc, ac [2]map[int]string
	for i := range 2 {
		dc[i], ac[i] = codesOf(tables.DC[i]), codesOf(tables.AC[i])
	}
	for i, run := range runs(s) {
		if i > 0 {
			out = append(out, 0xff, 0xd0+byte((i-1)%8))
		}
		var text strings.Builder
		prev := map[int]int{}
		for _, p := range run {
			b := t.Parts[p.part][p.at]
			for _, x := range symbolsOf(prev[p.part], b) {
				codes := dc[min(p.part, 1)]
				if x.ac {
					codes = ac[min(p.part, 1)]
				}
				code, ok := codes[x.value]
				if !ok {
					return nil, api.ErrCode
				}
				text.WriteString(code + x.bits)
			}
			prev[p.part] = b[0]
		}
		out = append(out, filled(text.String())...)
	}
	return out, api.OK
}

// source is bytes that are read bit by bit: at is behind the byte of which the
// bits are left.
type source struct {
	b    []byte
	at   int
	left string
}

// stop is what ends the reading of a source.
type stop api.Errno

// bit is the next bit.
func (r *source) bit() string {
	if r.left == "" {
		rest := r.b[r.at:]
		size := 1
		switch {
		case len(rest) == 0, len(rest) == 1 && rest[0] == 0xff:
			panic(stop(api.ErrShort))
		case rest[0] == 0xff && rest[1] != 0:
			panic(stop(api.ErrMark))
		case rest[0] == 0xff:
			size = 2
		}
		r.left = fmt.Sprintf("%08b", rest[0])
		r.at += size
	}
	bit := r.left[:1]
	r.left = r.left[1:]
	return bit
}

// value is the value whose code comes next.
func (r *source) value(values map[string]int) int {
	code := ""
	for len(code) < 16 {
		code += r.bit()
		if v, ok := values[code]; ok {
			return v
		}
	}
	panic(stop(api.ErrCode))
}

// number is the number of some size that comes next.
func (r *source) number(size int) int {
	text := ""
	for range size {
		text += r.bit()
	}
	if text == "" {
		return 0
	}
	if text[0] == '0' {
		n, _ := strconv.ParseInt(strings.NewReplacer("0", "1", "1", "0").Replace(text), 2, 64)
		return -int(n)
	}
	n, _ := strconv.ParseInt(text, 2, 64)
	return int(n)
}

// block is the block that comes next.
func (r *source) block(dc, ac map[string]int, prev int) (b api.Block) {
	size := r.value(dc)
	if size > 11 {
		panic(stop(api.ErrForm))
	}
	b[0] = prev + r.number(size)
	for at := 1; at < 64; {
		v := r.value(ac)
		if v == 0 {
			break
		}
		run, size := v/16, v%16
		if v == 0xf0 {
			at += 16
			if at > 64 {
				panic(stop(api.ErrForm))
			}
			continue
		}
		if at += run; size == 0 || size > 10 || at > 63 {
			panic(stop(api.ErrForm))
		}
		b[order[at]] = r.number(size)
		at++
	}
	if b[0] < -1023 || b[0] > 1023 {
		panic(stop(api.ErrForm))
	}
	return b
}

// restart reads a restart's marker.
func (r *source) restart(number int) {
	r.left = ""
	rest := r.b[r.at:]
	switch {
	case len(rest) < 2:
		panic(stop(api.ErrShort))
	case rest[0] != 0xff || rest[1] == 0 || rest[1] == 0xff:
		panic(stop(api.ErrForm))
	case int(rest[1]) != 0xd0+number%8:
		panic(stop(api.ErrMark))
	}
	r.at += 2
}

// valuesOf is a table's values by their codes.
func valuesOf(s api.Spec) map[string]int {
	values := map[string]int{}
	for value, code := range codesOf(s) {
		values[code] = value
	}
	return values
}

// wantedTile is the tile of some bytes by a valid header and valid tables, and
// where its bits end; or the error.
func wantedTile(s api.Scan, tables api.Tables, b []byte) (t api.Tile, n int, e api.Errno) {
	defer func() {
		if x := recover(); x != nil {
			t, n, e = api.Tile{}, 0, api.Errno(x.(stop))
		}
	}()
	var dc, ac [2]map[string]int
	for i := range 2 {
		dc[i], ac[i] = valuesOf(tables.DC[i]), valuesOf(tables.AC[i])
	}
	t = zeros(s)
	r := &source{b: b}
	for i, run := range runs(s) {
		if i > 0 {
			r.restart(i - 1)
		}
		prev := map[int]int{}
		for _, p := range run {
			which := min(p.part, 1)
			block := r.block(dc[which], ac[which], prev[p.part])
			t.Parts[p.part][p.at] = block
			prev[p.part] = block[0]
		}
	}
	return t, r.at, api.OK
}

// zeros is a header's tile of zeros.
func zeros(s api.Scan) api.Tile {
	t := api.Tile{Parts: make([][]api.Block, len(inUnit[s.Kind]))}
	for _, p := range spots(s) {
		t.Parts[p.part] = append(t.Parts[p.part], api.Block{})
	}
	return t
}

// drawBlock is a block in which one in rare numbers is not 0.
func drawBlock(rare int, roll *dice) (b api.Block) {
	for i := range b {
		if roll.below(rare) == 0 {
			b[i] = roll.sized(1 + roll.below(10))
		}
	}
	if roll.below(2) == 0 {
		b[0] = []int{-1023, -1022, -1, 0, 1, 1022, 1023}[roll.below(7)]
	}
	return b
}

// drawTile is a header's tile at random, in which one in rare numbers is not 0.
func drawTile(s api.Scan, rare int, roll *dice) api.Tile {
	t := zeros(s)
	for _, part := range t.Parts {
		for i := range part {
			part[i] = drawBlock(rare, roll)
		}
	}
	return t
}

// firsts is a header's tile of blocks with nothing but a number at index 0, one
// list a component.
func firsts(lists ...[]int) (t api.Tile) {
	for _, l := range lists {
		part := make([]api.Block, len(l))
		for i, n := range l {
			part[i][0] = n
		}
		t.Parts = append(t.Parts, part)
	}
	return t
}

// spec is a Huffman table of counts of codes, from 1 bit on, and values.
func spec(counts []int, values ...int) (s api.Spec) {
	copy(s.Bits[:], counts)
	s.Vals = values
	return s
}

// single is the table of a value alone.
func single(value int) api.Spec { return spec([]int{1}, value) }

// drawSpec is a valid table of some values, whose order and lengths are at
// random.
func drawSpec(values []int, roll *dice) (s api.Spec) {
	room := 1<<16 - 1
	lists := map[int][]int{}
	values = slices.Clone(values)
	for left := len(values) - 1; left >= 0; left-- {
		i := roll.below(left + 1)
		value := values[i]
		values[i] = values[left]
		length := 1 + roll.below(12)
		for 1<<(16-length) > room-left {
			length++
		}
		room -= 1 << (16 - length)
		lists[length] = append(lists[length], value)
	}
	for i := range s.Bits {
		s.Bits[i] = len(lists[i+1])
		s.Vals = append(s.Vals, lists[i+1]...)
	}
	return s
}

// upTo is the numbers from 0 on, up to n (this not).
func upTo(n int) (l []int) {
	for i := range n {
		l = append(l, i)
	}
	return l
}

// symbolsOfAC is all symbols that the AC table of some block may need.
func symbolsOfAC() []int {
	l := []int{0x00, 0xf0}
	for run := range 16 {
		for size := range 10 {
			l = append(l, 16*run+size+1)
		}
	}
	return l
}

// enough is tables at random with codes for all that a block may need, and no
// others.
func enough(roll *dice) (t api.Tables) {
	for i := range 2 {
		t.DC[i], t.AC[i] = drawSpec(upTo(12), roll), drawSpec(symbolsOfAC(), roll)
	}
	return t
}

// all is tables at random with codes for all values, so that many bits are read
// as symbols that no block has.
func all(roll *dice) (t api.Tables) {
	for i := range 2 {
		t.DC[i], t.AC[i] = drawSpec(upTo(256), roll), drawSpec(upTo(256), roll)
	}
	return t
}

// short is tables in which the codes of what comes often have 1 to 4 bits.
func short() (t api.Tables) {
	for i := range 2 {
		t.DC[i] = spec([]int{0, 0, 2, 6, 3, 1}, 3, 2, 4, 0, 5, 1, 7, 6, 8, 9, 11, 10)
		t.AC[i] = spec([]int{0, 2, 1, 1}, 0x00, 0x01, 0x11, 0x02)
		rest := symbolsOfAC()
		rest = slices.DeleteFunc(rest, func(n int) bool { return slices.Contains(t.AC[i].Vals, n) })
		t.AC[i].Bits[12] = len(rest)
		t.AC[i].Vals = append(t.AC[i].Vals, rest...)
	}
	t.AC[1].Vals[0], t.AC[1].Vals[2] = t.AC[1].Vals[2], t.AC[1].Vals[0]
	return t
}

// notSpecs is tables that are not valid.
func notSpecs() []api.Spec {
	return []api.Spec{
		{},
		spec([]int{1}),
		spec(nil, 0),
		spec([]int{1}, 0, 1),
		spec([]int{2}, 0, 1),
		spec([]int{1, 2}, 0, 1, 2),
		spec([]int{0, 3, -1}, 0, 1),
		spec([]int{0, 2}, 0, 0),
		spec([]int{0, 2}, 0, -1),
		spec([]int{0, 2}, 0, 256),
		spec([]int{0, math.MaxInt, math.MaxInt, 3}, 0),
	}
}

// edges is the sizes at which the number of blocks or units changes, or that
// are the least and the greatest.
var edges = []int{1, 7, 8, 9, 15, 16, 17, 127, 128}

// scans is valid headers of all kinds: small ones, those of the least and the
// greatest sizes, and such whose last units reach beyond the edge.
func scans() (l []api.Scan) {
	for kind := range 4 {
		for _, w := range []int{1, 8, 9, 17, 40} {
			for _, h := range []int{1, 16, 25, 33} {
				l = append(l, api.Scan{W: w, H: h, Kind: kind})
			}
		}
		l = append(l, api.Scan{W: 128, H: 1, Kind: kind}, api.Scan{W: 1, H: 128, Kind: kind}, api.Scan{W: 128, H: 128, Kind: kind}, api.Scan{W: 121, H: 50, Kind: kind})
	}
	return l
}

// few is some small headers of all kinds.
func few() (l []api.Scan) {
	for kind := range 4 {
		l = append(l, api.Scan{W: 1, H: 1, Kind: kind}, api.Scan{W: 17, H: 20, Kind: kind}, api.Scan{W: 40, H: 9, Kind: kind, Restart: 1}, api.Scan{W: 9, H: 40, Kind: kind, Restart: 2})
	}
	return l
}

// restarts is the numbers of units behind which a restart may come that make a
// difference for a header.
func restarts(s api.Scan) []int {
	n := unitsOf(s)
	l := []int{0, 1, 2, 3, n - 1, n, n + 1, 65535}
	return slices.DeleteFunc(l, func(n int) bool { return n < 0 })
}

// outside is numbers that are far out of any range.
var outside = []int{-1, -2, math.MinInt, math.MaxInt, 1 << 32, 1<<32 + 1, -1<<32 + 1, 1 << 16, 1<<16 + 1}

// notScans is headers that are not valid, each in one field.
func notScans() (l []api.Scan) {
	for kind := range 4 {
		s := api.Scan{W: 16, H: 9, Kind: kind, Restart: 1}
		for _, n := range append([]int{0, 129, 256}, outside...) {
			a, b := s, s
			a.W, b.H = n, n
			l = append(l, a, b)
		}
		for _, n := range append([]int{4, 5, 256}, outside...) {
			a := s
			a.Kind = n
			l = append(l, a)
		}
		for _, n := range outside {
			a := s
			a.Restart = n
			l = append(l, a)
		}
	}
	return append(l, api.Scan{}, api.Scan{Kind: 1})
}

// sameTile tells whether tiles are the same.
func sameTile(a, b api.Tile) bool {
	return slices.EqualFunc(a.Parts, b.Parts, func(c, d []api.Block) bool { return slices.Equal(c, d) })
}

// sameSpec tells whether two Huffman tables are the same.
func sameSpec(a, b api.Spec) bool { return a.Bits == b.Bits && slices.Equal(a.Vals, b.Vals) }

// sameTables tells whether tables are the same.
func sameTables(a, b api.Tables) bool {
	same := a.Steps == b.Steps
	for i := range 2 {
		same = same && sameSpec(a.DC[i], b.DC[i]) && sameSpec(a.AC[i], b.AC[i])
	}
	return same
}

// copiedTile is a tile of its own memory.
func copiedTile(t api.Tile) (c api.Tile) {
	for _, part := range t.Parts {
		c.Parts = append(c.Parts, slices.Clone(part))
	}
	return c
}

// copiedTables is tables of their own memory.
func copiedTables(t api.Tables) api.Tables {
	for i := range 2 {
		t.DC[i].Vals, t.AC[i].Vals = slices.Clone(t.DC[i].Vals), slices.Clone(t.AC[i].Vals)
	}
	return t
}

// put is a tile's scan bytes, which there must be.
func put(t *testing.T, s api.Scan, tables api.Tables, tile api.Tile) []byte {
	t.Helper()
	b, e := scan.Put(s, tables, tile)
	if e != api.OK {
		t.Fatal("Put:", s, e)
	}
	return b
}

// puts holds what Put answers against what it must.
func puts(t *testing.T, what string, s api.Scan, tables api.Tables, tile api.Tile, want []byte, e api.Errno) {
	t.Helper()
	if b, f := scan.Put(s, tables, tile); !slices.Equal(b, want) || f != e {
		t.Errorf("%s: Put of %v: %x %d, not %x %d", what, s, b, f, want, e)
	}
}

// gets holds what Get answers against what it must.
func gets(t *testing.T, what string, s api.Scan, tables api.Tables, b []byte, want api.Tile, n int, e api.Errno) {
	t.Helper()
	tile, m, f := scan.Get(s, tables, b)
	if m != n || f != e || !sameTile(tile, want) {
		t.Errorf("%s: Get of %v, %d bytes: ends at %d, %d, not at %d, %d; the same tile: %v", what, s, len(b), m, f, n, e, sameTile(tile, want))
	}
}

// refuses holds an error of Get against what it must be.
func refuses(t *testing.T, what string, s api.Scan, tables api.Tables, b []byte, e api.Errno) {
	t.Helper()
	gets(t, what, s, tables, b, api.Tile{}, 0, e)
}

// reading holds Get against the document, and is the error.
func reading(t *testing.T, what string, s api.Scan, tables api.Tables, b []byte) api.Errno {
	t.Helper()
	tile, n, e := wantedTile(s, tables, b)
	gets(t, what, s, tables, b, tile, n, e)
	return e
}
