package coef_test

import (
	"bytes"
	"fmt"
	"math"
	"slices"
	"strconv"
	"strings"
	"testing"

	"clerestory/api"
	"clerestory/bits"
	"clerestory/coef"
	"clerestory/huff"
	"clerestory/tuned"
)

// dice is a source of numbers that are the same in every run.
type dice uint64

// below is the next number, less than n.
func (d *dice) below(n int) int {
	*d = *d*6364136223846793005 + 1442695040888963407
	return int(uint64(*d)>>33) % n
}

// around is the next number of -n to n.
func (d *dice) around(n int) int { return d.below(2*n+1) - n }

// sized is the next number of some size, 1 at least.
func (d *dice) sized(size int) int {
	n := 1<<(size-1) + d.below(1<<(size-1))
	if d.below(2) == 0 {
		return -n
	}
	return n
}

// zigzag is the places of a block, walked along its diagonals: up those whose
// row and column have an even sum, and down the others.
func zigzag() []int {
	var l []int
	for sum := range 15 {
		for i := range 8 {
			row := i
			if sum%2 == 0 {
				row = 7 - i
			}
			if column := sum - row; column >= 0 && column < 8 {
				l = append(l, 8*row+column)
			}
		}
	}
	return l
}

// block is the block of some numbers, each behind its position in the zigzag
// order; the others are 0.
func block(l ...int) (b api.Block) {
	order := zigzag()
	for i := 0; i < len(l); i += 2 {
		b[order[l[i]]] = l[i+1]
	}
	return b
}

// filled is the block of a number alone.
func filled(n int) (b api.Block) {
	for i := range b {
		b[i] = n
	}
	return b
}

// random is a block in which one in rare numbers is not 0; these are of random
// sizes.
func random(rare int, d *dice) (b api.Block) {
	for i := range b {
		if d.below(rare) == 0 {
			b[i] = d.sized(1 + d.below(10))
		}
	}
	if d.below(8) == 0 {
		b[0] = []int{-1023, -1022, 0, 1022, 1023}[d.below(5)]
	}
	return b
}

// blocks is some valid blocks: random ones, and ones of special forms.
func blocks() []api.Block {
	d := dice(1)
	var l []api.Block
	for _, n := range []int{-1023, -512, -2, -1, 0, 1, 2, 3, 511, 512, 1023} {
		l = append(l, filled(n), block(0, n))
	}
	for i := range 64 {
		l = append(l, block(i, d.sized(1+d.below(10))))
	}
	for _, rare := range []int{1, 2, 3, 8, 20, 40, 80} {
		for range 15 {
			l = append(l, random(rare, &d))
		}
	}
	return l
}

// previous is some numbers that a previous block may have.
var previous = []int{0, 1, -1, 7, -300, 512, 1022, 1023, -1023}

// piece is what a scan has of a symbol: the symbol, by which table it is coded,
// and the bits behind it.
type piece struct {
	ac    bool
	value int
	bits  string
}

// digits is the bits of a number: the binary digits of its amount, each the
// other way round if the number is negative.
func digits(n int) string {
	if n == 0 {
		return ""
	}
	if n < 0 {
		return strings.NewReplacer("0", "1", "1", "0").Replace(digits(-n))
	}
	return strconv.FormatInt(int64(n), 2)
}

// symbols is a block's symbols as the document tells them.
func symbols(prev int, b api.Block) []piece {
	first := digits(b[0] - prev)
	l := []piece{{false, len(first), first}}
	last := 0 // the position of the last number that was not 0
	for i, at := range zigzag() {
		if i == 0 || b[at] == 0 {
			continue
		}
		run := i - last - 1
		for range run / 16 {
			l = append(l, piece{true, 0xf0, ""})
		}
		s := digits(b[at])
		l = append(l, piece{true, 16*(run%16) + len(s), s})
		last = i
	}
	if last < 63 {
		l = append(l, piece{true, 0x00, ""})
	}
	return l
}

// told is symbols that are written as two hexadecimal digits each, and behind
// a colon their bits.
func told(t *testing.T, s string) []piece {
	t.Helper()
	var l []piece
	for i, word := range strings.Fields(s) {
		digits, tail, _ := strings.Cut(word, ":")
		n, e := strconv.ParseInt(digits, 16, 0)
		if e != nil {
			t.Fatal(s, e)
		}
		l = append(l, piece{i > 0, int(n), tail})
	}
	return l
}

// example is a block, what was before it, and its symbols worked out by hand.
type example struct {
	prev    int
	b       api.Block
	symbols string
}

// ones is so many symbols of the number 1 without a zero before it.
func ones(n int) string { return strings.Repeat(" 01:1", n) }

// examples is blocks with their symbols.
func examples() []example {
	// A block that is often printed as an example of the zigzag order.
	printed := api.Block{
		-26, -3, -6, 2, 2, -1, 0, 0,
		0, -2, -4, 1, 1, 0, 0, 0,
		-3, 1, 5, -1, -1, 0, 0, 0,
		-3, 1, 2, -1, 0, 0, 0, 0,
		1,
	}
	return []example{
		{0, filled(0), "00 00"},
		{7, filled(0), "03:000 00"},
		{0, block(0, -5), "03:010 00"},
		{-5, block(0, -5), "00 00"},
		{1023, block(0, -1023), "0b:00000000001 00"},
		{-1023, block(0, 1023), "0b:11111111110 00"},
		{-1, block(0, 1023), "0b:10000000000 00"},
		{0, block(0, 1023), "0a:1111111111 00"},
		{0, block(0, -1023), "0a:0000000000 00"},
		{0, block(1, -5), "00 03:010 00"},
		{0, block(2, 1023), "00 1a:1111111111 00"},
		{0, block(3, -1023), "00 2a:0000000000 00"},
		{0, block(16, 1), "00 f1:1 00"},
		{0, block(17, 1), "00 f0 01:1 00"},
		{0, block(18, -1), "00 f0 11:0 00"},
		{0, block(1, 2, 17, 3), "00 02:10 f2:11 00"},
		{0, block(1, 2, 18, 3), "00 02:10 f0 02:11 00"},
		{0, block(1, 2, 19, 3), "00 02:10 f0 12:11 00"},
		{0, block(32, 1), "00 f0 f1:1 00"},
		{0, block(33, 1), "00 f0 f0 01:1 00"},
		{0, block(34, 1), "00 f0 f0 11:1 00"},
		{0, block(48, 1), "00 f0 f0 f1:1 00"},
		{0, block(49, 1), "00 f0 f0 f0 01:1 00"},
		{0, block(62, 1), "00 f0 f0 f0 d1:1 00"},
		{0, block(63, 1), "00 f0 f0 f0 e1:1"},
		{0, block(15, 1, 63, 1), "00 e1:1 f0 f0 f1:1"},
		{0, block(1, 4, 49, -4), "00 03:100 f0 f0 f3:011 00"},
		{0, block(62, 1, 63, -1), "00 f0 f0 f0 d1:1 01:0"},
		{0, filled(1), "01:1" + ones(63)},
		{1, block(0, 1, 63, 9), "00 f0 f0 f0 e4:1001"},
		{0, printed, "05:00101 02:00 12:00 02:01 03:001 02:10 03:011 01:1 02:00 01:1 01:1 03:101 01:1 02:10 01:0 01:1 01:0 02:10 51:0 01:0 00"},
	}
}

// full is two tables of all values, whose codes have 9 bits, none of which
// begins with 1. They are in different orders, so that no value has the same
// code in both.
func full(t *testing.T) (*huff.Table, *huff.Table) {
	t.Helper()
	var s api.Spec
	s.Bits[8] = 256
	for v := range 256 {
		s.Vals = append(s.Vals, v)
	}
	dc := table(t, s)
	slices.Reverse(s.Vals)
	return dc, table(t, s)
}

// table is a spec's table, which there must be.
func table(t *testing.T, s api.Spec) *huff.Table {
	t.Helper()
	h, e := huff.New(s)
	if h == nil || e != api.OK {
		t.Fatal("New", s, e)
	}
	return h
}

// of is a table of some values, whose codes have 9 bits.
func of(t *testing.T, values ...int) *huff.Table {
	t.Helper()
	s := api.Spec{Vals: values}
	s.Bits[8] = len(values)
	return table(t, s)
}

// suited is a table that suits random counts, of all values or only of those
// below a bound.
func suited(t *testing.T, bound int, d *dice) *huff.Table {
	t.Helper()
	counts := make([]int, bound)
	for i := range counts {
		counts[i] = 1 + d.below(1<<(1+d.below(25)))
	}
	s, e := tuned.Spec(counts)
	if e != api.OK {
		t.Fatal("Spec", e)
	}
	return table(t, s)
}

// code is a value's code, as binary digits.
func code(t *testing.T, h *huff.Table, value int) string {
	t.Helper()
	n, length, ok := h.Code(value)
	if !ok {
		t.Fatal("no code of", value)
	}
	return fmt.Sprintf("%0*b", length, n)
}

// coded is the bits of some symbols.
func coded(t *testing.T, dc, ac *huff.Table, l []piece) string {
	t.Helper()
	var text strings.Builder
	for _, p := range l {
		h := dc
		if p.ac {
			h = ac
		}
		text.WriteString(code(t, h, p.value) + p.bits)
	}
	return text.String()
}

// number is what binary digits are.
func number(s string) int {
	n := 0
	for _, c := range s {
		n = 2*n + int(c-'0')
	}
	return n
}

// padded is bits with the bits 1 that fill the last byte up.
func padded(s string) string {
	for len(s)%8 != 0 {
		s += "1"
	}
	return s
}

// scan is the scan bytes of bits that are written as binary digits.
func scan(s string) []byte {
	var l []byte
	for s = padded(s); len(s) > 0; s = s[8:] {
		n := number(s[:8])
		l = append(l, byte(n))
		if n == 255 {
			l = append(l, 0)
		}
	}
	return l
}

// holds compares a writer with the bits that it should hold.
func holds(t *testing.T, what string, w *bits.Writer, s string) {
	t.Helper()
	if n := w.Count(); n != len(s) {
		t.Error(what, "Count:", n, "not", len(s))
	}
	if b := w.Bytes(); !bytes.Equal(b, scan(s)) {
		t.Errorf("%s Bytes: %x, not %x", what, b, scan(s))
	}
}

// left is the bits that a reader has before it, up to the end or a marker. It
// reads from a copy, so that the reader stays where it is.
func left(r *bits.Reader) string {
	c := *r
	var s strings.Builder
	for {
		bit, e := c.Bit()
		if e != api.OK {
			return s.String()
		}
		s.WriteString(strconv.Itoa(bit))
	}
}

// get reads a block, and holds what comes against what must: the block, the
// error, and what bits are left.
func get(t *testing.T, what string, r *bits.Reader, dc, ac *huff.Table, prev int, want api.Block, e api.Errno, rest string) {
	t.Helper()
	b, f := coef.Get(r, dc, ac, prev)
	if b != want || f != e {
		t.Errorf("%s: Get: %d %d\nnot %d %d", what, f, b, e, want)
	}
	if s := left(r); s != rest {
		t.Errorf("%s: Get: left %q, not %q", what, s, rest)
	}
}

// puts puts blocks, the first of them behind the number 0.
func puts(t *testing.T, what string, w *bits.Writer, dc, ac *huff.Table, l []api.Block) {
	t.Helper()
	prev := 0
	for i, b := range l {
		if e := coef.Put(w, dc, ac, prev, b); e != api.OK {
			t.Fatal(what, i, "Put:", e)
		}
		prev = b[0]
	}
}

// reads reads blocks, the first of them behind the number 0, and compares them
// with those that must come.
func reads(t *testing.T, what string, r *bits.Reader, dc, ac *huff.Table, l []api.Block) {
	t.Helper()
	prev := 0
	for i, want := range l {
		if b, e := coef.Get(r, dc, ac, prev); b != want || e != api.OK {
			t.Fatal(what, i, "Get:", e, b, "not", want)
		}
		prev = want[0]
	}
}

// outside is numbers that no block has.
var outside = []int{-1024, 1024, -1025, 1025, 2047, -2047, 2048, 1 << 16, 1 << 32, -1 << 32, 1<<32 + 1, math.MaxInt, math.MinInt, math.MinInt + 1}

func TestExample1(t *testing.T) {
	dc, ac := full(t)
	w := bits.NewWriter()
	if e := coef.Put(w, dc, ac, 0, api.Block{}); e != api.OK {
		t.Error(e)
	}
	holds(t, "zeros", w, code(t, dc, 0)+code(t, ac, 0))
	if n := coef.Size(-5); n != 3 {
		t.Error("Size:", n)
	}
	w = bits.NewWriter()
	if e := coef.Put(w, dc, ac, 0, block(0, -5)); e != api.OK {
		t.Error(e)
	}
	holds(t, "-5", w, code(t, dc, 3)+"010"+code(t, ac, 0))
}

func TestP7_1Order(t *testing.T) {
	want := [64]int{
		0, 1, 8, 16, 9, 2, 3, 10, 17, 24, 32, 25, 18, 11, 4, 5,
		12, 19, 26, 33, 40, 48, 41, 34, 27, 20, 13, 6, 7, 14, 21, 28,
		35, 42, 49, 56, 57, 50, 43, 36, 29, 22, 15, 23, 30, 37, 44, 51,
		58, 59, 52, 45, 38, 31, 39, 46, 53, 60, 61, 54, 47, 55, 62, 63,
	}
	l := coef.Order()
	if l != want || !slices.Equal(l[:], zigzag()) {
		t.Error(l)
	}
	for i := range l {
		l[i] = -7
	}
	if coef.Order() != want {
		t.Error("written over:", coef.Order())
	}
	if n := coef.Size(coef.Order()[2]); n != 4 {
		t.Error(n)
	}
}

func TestP7_1Right(t *testing.T) {
	for i, b := range blocks() {
		if !coef.Right(b) {
			t.Error(i, b)
		}
	}
	for i := range 64 {
		for _, n := range []int{-1023, -1022, -1, 0, 1, 1022, 1023} {
			b := api.Block{}
			b[i] = n
			if !coef.Right(b) {
				t.Error(i, n)
			}
		}
		for _, n := range outside {
			for _, b := range []api.Block{{}, filled(1023), filled(-1023)} {
				b[i] = n
				if coef.Right(b) {
					t.Error(i, n)
				}
			}
		}
	}
}

func TestP7_1Size(t *testing.T) {
	for _, c := range [][2]int{
		{-1024, 11}, {-1023, 10}, {-512, 10}, {-511, 9}, {-5, 3}, {-4, 3}, {-3, 2}, {-2, 2}, {-1, 1}, {0, 0},
		{1, 1}, {2, 2}, {3, 2}, {4, 3}, {7, 3}, {8, 4}, {511, 9}, {512, 10}, {1023, 10}, {1024, 11}, {2046, 11},
		{-2046, 11}, {2047, 11}, {2048, 12}, {math.MaxInt, 63}, {-math.MaxInt, 63}, {math.MinInt, 64}, {math.MinInt + 1, 63},
	} {
		if n := coef.Size(c[0]); n != c[1] {
			t.Error(c, n)
		}
	}
	for i := range 63 {
		n := 1 << i
		if coef.Size(n) != i+1 || coef.Size(-n) != i+1 || coef.Size(n-1) != i || coef.Size(1-n) != i {
			t.Error(n, coef.Size(n), coef.Size(-n), coef.Size(n-1), coef.Size(1-n))
		}
	}
	for n := range 5000 {
		want := len(strconv.FormatInt(int64(n), 2))
		if n == 0 {
			want = 0
		}
		if coef.Size(n) != want || coef.Size(-n) != want {
			t.Error(n, coef.Size(n), coef.Size(-n))
		}
	}
}

// tally counts, and holds what comes against what must: what was handed in, and
// one more for each of some symbols.
func tally(t *testing.T, what string, dc, ac []int, prev int, b api.Block, l []piece) ([]int, []int) {
	t.Helper()
	wantDC, wantAC := slices.Clone(dc), slices.Clone(ac)
	for _, p := range l {
		if p.ac {
			wantAC[p.value]++
		} else {
			wantDC[p.value]++
		}
	}
	x, y, e := coef.Tally(dc, ac, prev, b)
	if !slices.Equal(x, wantDC) || !slices.Equal(y, wantAC) || e != api.OK {
		t.Errorf("%s: Tally: %d\n%d\n%d, not\n%d\n%d", what, e, x, y, wantDC, wantAC)
	}
	return x, y
}

func TestP7_1TallyByHand(t *testing.T) {
	for _, c := range examples() {
		tally(t, c.symbols, make([]int, 256), make([]int, 256), c.prev, c.b, told(t, c.symbols))
	}
}

func TestP7_1TallyOfOneBlockAfterAnother(t *testing.T) {
	d := dice(2)
	dc, ac := make([]int, 256), make([]int, 256)
	for i := range 256 {
		dc[i], ac[i] = d.around(1<<30), d.around(1<<30)
	}
	prev := 0
	for i, b := range blocks() {
		dc, ac = tally(t, fmt.Sprint("block ", i), dc, ac, prev, b, symbols(prev, b))
		prev = b[0]
	}
	for i, b := range blocks() {
		for _, prev := range previous {
			tally(t, fmt.Sprint("block ", i, " behind ", prev), dc, ac, prev, b, symbols(prev, b))
		}
	}
}

// refused holds that Tally refuses.
func refused(t *testing.T, what string, dc, ac []int, prev int, b api.Block, want api.Errno) {
	t.Helper()
	x, y, e := coef.Tally(dc, ac, prev, b)
	if len(x) != 0 || len(y) != 0 || e != want {
		t.Error(what, len(dc), len(ac), prev, len(x), len(y), e, "not", want)
	}
}

func TestP7_1TallyOfListsOfOtherLengths(t *testing.T) {
	whole := make([]int, 256)
	l := [][]int{nil, {}, make([]int, 1), make([]int, 12), make([]int, 255), make([]int, 257), make([]int, 512), make([]int, 0, 256), make([]int, 255, 256), make([]int, 65536)}
	for _, other := range l {
		for _, b := range []api.Block{{}, filled(3), filled(1024)} {
			for _, prev := range []int{0, 1024, math.MinInt} {
				refused(t, "dc", other, whole, prev, b, api.ErrArg)
				refused(t, "ac", whole, other, prev, b, api.ErrArg)
				refused(t, "both", other, other, prev, b, api.ErrArg)
			}
		}
	}
	refused(t, "together as many", make([]int, 255), make([]int, 257), 0, api.Block{}, api.ErrArg)
}

func TestP7_1TallyBeyondTheRange(t *testing.T) {
	dc, ac := make([]int, 256), make([]int, 256)
	for _, n := range outside {
		refused(t, "prev", dc, ac, n, api.Block{}, api.ErrRange)
		refused(t, "prev, no difference", dc, ac, n, block(0, n), api.ErrRange)
		for i := range 64 {
			b := api.Block{}
			b[i] = n
			refused(t, "block", dc, ac, 0, b, api.ErrRange)
			refused(t, "block and prev", dc, ac, n, b, api.ErrRange)
		}
	}
	if slices.Max(dc) != 0 || slices.Max(ac) != 0 {
		t.Error("counted:", dc, ac)
	}
}

func TestP7_1TallyLeavesWhatWasHandedIn(t *testing.T) {
	long := make([]int, 600)
	for i := range long {
		long[i] = 1000 + i
	}
	before := slices.Clone(long)
	// Two lists that share memory, with spare capacity behind them.
	dc, ac := long[20:276], long[30:286]
	for i, b := range blocks() {
		what := fmt.Sprint("block ", i)
		x, y := tally(t, what, dc, ac, 3, b, symbols(3, b))
		v, w := tally(t, what, dc, dc, 3, b, symbols(3, b))
		refused(t, what, dc, ac, 1024, b, api.ErrRange)
		refused(t, what, dc, ac[1:], 0, b, api.ErrArg)
		for _, l := range [][]int{x, y, v, w} {
			mine := l[:cap(l)]
			for k := range mine {
				if mine[k] < 0 {
					t.Error(what, "results share memory")
				}
				mine[k] = -7
			}
		}
		if !slices.Equal(long, before) {
			t.Fatal(what, "changed what was handed in")
		}
	}
}

func TestP7_2PutByHand(t *testing.T) {
	dc, ac := full(t)
	for _, c := range examples() {
		w := bits.NewWriter()
		w.Put(5, 3)
		if e := coef.Put(w, dc, ac, c.prev, c.b); e != api.OK {
			t.Error(c.symbols, e)
		}
		holds(t, c.symbols, w, "101"+coded(t, dc, ac, told(t, c.symbols)))
	}
}

func TestP7_2PutOfOneBlockAfterAnother(t *testing.T) {
	d := dice(3)
	for range 4 {
		dc, ac := suited(t, 12, &d), suited(t, 256, &d)
		w := bits.NewWriter()
		prev := previous[d.below(len(previous))]
		want := ""
		for i, b := range blocks() {
			if e := coef.Put(w, dc, ac, prev, b); e != api.OK {
				t.Fatal(i, e)
			}
			want += coded(t, dc, ac, symbols(prev, b))
			prev = b[0]
			if i%20 == 0 {
				holds(t, fmt.Sprint("block ", i), w, want)
				if e := coef.Put(w, dc, ac, 1024, b); e != api.ErrRange {
					t.Error(e)
				}
			}
		}
		holds(t, "all", w, want)
	}
}

func TestP7_2PutOfAnyDifference(t *testing.T) {
	dc, ac := full(t)
	for n := -2046; n <= 2046; n++ {
		for _, prev := range []int{-1023, -1, 0, 1023} {
			if prev+n < -1023 || prev+n > 1023 {
				continue
			}
			w := bits.NewWriter()
			if e := coef.Put(w, dc, ac, prev, block(0, prev+n)); e != api.OK {
				t.Error(n, e)
			}
			holds(t, fmt.Sprint(prev, n), w, code(t, dc, len(digits(n)))+digits(n)+code(t, ac, 0))
		}
	}
}

func TestP7_2PutOfAnyNumber(t *testing.T) {
	dc, ac := full(t)
	for n := -1023; n <= 1023; n++ {
		if n == 0 {
			continue
		}
		w := bits.NewWriter()
		if e := coef.Put(w, dc, ac, 0, block(3, n)); e != api.OK {
			t.Error(n, e)
		}
		holds(t, fmt.Sprint(n), w, code(t, dc, 0)+code(t, ac, 0x20+len(digits(n)))+digits(n)+code(t, ac, 0))
	}
}

// notPut holds that a block can't be put, and that nothing of it is.
func notPut(t *testing.T, what string, dc, ac *huff.Table, prev int, b api.Block, want api.Errno) {
	t.Helper()
	w := bits.NewWriter()
	w.Put(0x1234, 13)
	if e := coef.Put(w, dc, ac, prev, b); e != want {
		t.Error(what, prev, e, "not", want)
	}
	holds(t, what, w, "1001000110100")
	if e := coef.Put(nil, dc, ac, prev, b); e != want {
		t.Error(what, "and no writer:", prev, e, "not", want)
	}
}

func TestP7_2PutBeyondTheRange(t *testing.T) {
	dc, ac := full(t)
	for _, n := range outside {
		notPut(t, "prev", dc, ac, n, api.Block{}, api.ErrRange)
		notPut(t, "prev, no difference", dc, ac, n, block(0, n), api.ErrRange)
		notPut(t, "prev and no tables", nil, nil, n, api.Block{}, api.ErrRange)
		for i := range 64 {
			b := filled(1)
			b[i] = n
			notPut(t, "block", dc, ac, 0, b, api.ErrRange)
			notPut(t, "block and no tables", nil, nil, 0, b, api.ErrRange)
		}
	}
}

func TestP7_2PutWithoutACode(t *testing.T) {
	dc, ac := full(t)
	for i, b := range blocks() {
		l := symbols(9, b)
		var first, others []int
		for _, p := range l {
			if p.ac {
				others = append(others, p.value)
			} else {
				first = append(first, p.value)
			}
		}
		slices.Sort(others)
		others = slices.Compact(others)
		what := fmt.Sprint("block ", i)
		w := bits.NewWriter()
		if e := coef.Put(w, of(t, first...), of(t, others...), 9, b); e != api.OK {
			t.Error(what, "with just its codes:", e)
		}
		holds(t, what, w, coded(t, of(t, first...), of(t, others...), l))
		// Each of the codes is taken away, and only that one.
		notPut(t, what, without(t, first[0]), ac, 9, b, api.ErrCode)
		for _, v := range others {
			notPut(t, what, dc, without(t, v), 9, b, api.ErrCode)
		}
		notPut(t, what, without(t, first[0]), without(t, others[0]), 9, b, api.ErrCode)
	}
}

// without is a table of all values but one.
func without(t *testing.T, value int) *huff.Table {
	t.Helper()
	var l []int
	for v := range 256 {
		if v != value {
			l = append(l, v)
		}
	}
	return of(t, l...)
}

func TestP7_2PutWithoutTables(t *testing.T) {
	dc, ac := full(t)
	for _, b := range []api.Block{{}, block(0, 5), filled(3), block(63, 1)} {
		notPut(t, "no dc", nil, ac, 0, b, api.ErrCode)
		notPut(t, "no ac", dc, nil, 0, b, api.ErrCode)
		notPut(t, "neither", nil, nil, 0, b, api.ErrCode)
		if e := coef.Put(nil, dc, ac, 0, b); e != api.ErrShort {
			t.Error("no writer:", e)
		}
	}
}

func TestP7_2PutLeavesTheTables(t *testing.T) {
	d := dice(4)
	dc, ac := suited(t, 12, &d), suited(t, 256, &d)
	v, w := dc.Spec(), ac.Spec()
	text := ""
	for _, b := range blocks() {
		text += coded(t, dc, ac, symbols(0, b))
		coef.Put(bits.NewWriter(), dc, ac, 0, b)
		coef.Get(bits.NewReader(scan(text)), dc, ac, 0)
	}
	x, y := dc.Spec(), ac.Spec()
	if x.Bits != v.Bits || y.Bits != w.Bits || !slices.Equal(x.Vals, v.Vals) || !slices.Equal(y.Vals, w.Vals) {
		t.Error("changed")
	}
}

func TestP7_3GetByHand(t *testing.T) {
	dc, ac := full(t)
	for _, c := range examples() {
		text := "0110" + coded(t, dc, ac, told(t, c.symbols))
		for _, more := range []string{"", "1", "0", "00000000000000000000"} {
			r := bits.NewReader(scan(text + more))
			r.Get(4)
			get(t, c.symbols, r, dc, ac, c.prev, c.b, api.OK, padded(text + more)[len(text):])
		}
	}
}

func TestP7_3GetOfAPrevBeyondTheRange(t *testing.T) {
	dc, ac := full(t)
	text := "101" + code(t, dc, 2) + "10" + code(t, ac, 0)
	r := bits.NewReader(scan(text))
	r.Get(3)
	rest := padded(text)[3:]
	for _, n := range outside {
		get(t, "prev", r, dc, ac, n, api.Block{}, api.ErrRange, rest)
		get(t, "prev and no tables", r, nil, nil, n, api.Block{}, api.ErrRange, rest)
		if b, e := coef.Get(nil, nil, nil, n); b != (api.Block{}) || e != api.ErrRange {
			t.Error("prev, no reader and no tables:", b, e)
		}
	}
	get(t, "gone on", r, dc, ac, -1023, block(0, -1021), api.OK, padded(text)[len(text):])
}

func TestP7_3GetWithNil(t *testing.T) {
	dc, ac := full(t)
	text := code(t, dc, 2) + "10" + code(t, ac, 0)
	for _, h := range []*huff.Table{nil, ac} {
		get(t, "no dc", bits.NewReader(scan(text)), nil, h, 0, api.Block{}, api.ErrCode, padded(text))
	}
	get(t, "no ac", bits.NewReader(scan(text)), dc, nil, 0, api.Block{}, api.ErrCode, padded(text)[11:])
	if b, e := coef.Get(nil, dc, ac, 0); b != (api.Block{}) || e != api.ErrShort {
		t.Error("no reader:", b, e)
	}
	if b, e := coef.Get(nil, nil, nil, 0); b != (api.Block{}) || e != api.ErrCode {
		t.Error("no reader and no tables:", b, e)
	}
}

// stop is where a reader stands when the bits of some symbols have ended too
// early: behind all bits of a code that were there, but ahead of a number's bits
// if not all of them were.
func stop(t *testing.T, dc, ac *huff.Table, l []piece, end int) int {
	t.Helper()
	at := 0
	for i, p := range l {
		at += len(coded(t, dc, ac, l[i:i+1])) - len(p.bits)
		if at > end {
			return end
		}
		if at+len(p.bits) > end {
			return at
		}
		at += len(p.bits)
	}
	return at
}

func TestP7_3GetOfBitsThatEndTooEarly(t *testing.T) {
	d := dice(5)
	inCode, inBits := 0, 0
	for i, b := range blocks() {
		dc, ac := suited(t, 12, &d), suited(t, 256, &d)
		if i%2 == 0 {
			dc, ac = full(t)
		}
		l := symbols(-4, b)
		whole := coded(t, dc, ac, l)
		for ahead := range 8 {
			text := strings.Repeat("10", 4)[:ahead] + whole
			for end := 8; end < len(text); end += 8 {
				at := ahead + stop(t, dc, ac, l, end-ahead)
				if at == end {
					inCode++
				} else {
					inBits++
				}
				what := fmt.Sprint("block ", i, " ahead ", ahead, " up to ", end)
				r := bits.NewReader(scan(text[:end]))
				r.Get(ahead)
				get(t, what, r, dc, ac, -4, api.Block{}, api.ErrShort, text[at:end])
				r = bits.NewReader(append(scan(text[:end]), 0xff, 0xd0+byte(i%8), 0, 0, 0, 0))
				r.Get(ahead)
				get(t, what+" and a marker", r, dc, ac, -4, api.Block{}, api.ErrMark, text[at:end])
				r = bits.NewReader(append(scan(text[:end]), 0xff))
				r.Get(ahead)
				get(t, what+" and a half byte", r, dc, ac, -4, api.Block{}, api.ErrShort, text[at:end])
			}
		}
		if t.Failed() {
			return
		}
	}
	if inCode < 1000 || inBits < 1000 {
		t.Error("one-sided:", inCode, inBits)
	}
}

func TestP7_3GetOfNothing(t *testing.T) {
	dc, ac := full(t)
	get(t, "nothing", bits.NewReader(nil), dc, ac, 0, api.Block{}, api.ErrShort, "")
	get(t, "half a byte", bits.NewReader([]byte{0xff}), dc, ac, 0, api.Block{}, api.ErrShort, "")
	r := bits.NewReader([]byte{0xff, 0xd9})
	get(t, "a marker", r, dc, ac, 0, api.Block{}, api.ErrMark, "")
	if n, e := r.Marker(); n != 0xd9 || e != api.OK {
		t.Error("the marker:", n, e)
	}
}

// upTo is a block whose numbers ahead of a position, 1 at least, are 1, and the
// symbols of these.
func upTo(i int) ([]piece, api.Block) {
	l, b := []piece{{false, 1, "1"}}, block(0, 1)
	for _, at := range zigzag()[1:i] {
		l = append(l, piece{true, 1, "1"})
		b[at] = 1
	}
	return l, b
}

func TestP7_3GetOfBitsThatBeginNoCode(t *testing.T) {
	dc, ac := full(t)
	no := "1011001110001111"
	for i := range 64 {
		var text string
		if i > 0 {
			l, _ := upTo(i)
			text = coded(t, dc, ac, l)
		}
		for _, rest := range []string{"", "0", "1010101010101"} {
			all := text + no + rest
			r := bits.NewReader(scan(all))
			get(t, fmt.Sprint("no code at ", i), r, dc, ac, 0, api.Block{}, api.ErrCode, padded(all)[len(text)+16:])
		}
		// Up to 15 bits are the beginning of what may still be a code.
		for n := range 16 {
			front := strings.Repeat("0", (16-len(text+no[:n])%8)%8)
			r := bits.NewReader(scan(front + text + no[:n]))
			r.Get(len(front))
			get(t, fmt.Sprint(n, " bits at ", i), r, dc, ac, 0, api.Block{}, api.ErrShort, "")
		}
	}
}

func TestP7_3GetOfAFirstSize(t *testing.T) {
	d := dice(6)
	dc, ac := full(t)
	for value := range 256 {
		for ahead := range 8 {
			text := strings.Repeat("1", 7+ahead)
			tail := strings.Repeat("10", 20)
			if ahead == 0 {
				tail = "" // the bytes end with the symbol, where no bits follow it
			}
			if value > 11 {
				all := text + code(t, dc, value) + tail
				r := bits.NewReader(scan(all))
				r.Get(len(text))
				get(t, fmt.Sprint("size ", value), r, dc, ac, 0, api.Block{}, api.ErrForm, padded(all)[len(text)+9:])
				continue
			}
			n := 0
			if value > 0 {
				n = min(max(d.sized(value), -2046), 2046)
			}
			prev := min(max(-n, -1023), 1023)
			all := text + code(t, dc, value) + digits(n) + code(t, ac, 0)
			r := bits.NewReader(scan(all + tail))
			r.Get(len(text))
			get(t, fmt.Sprint("size ", value), r, dc, ac, prev, block(0, prev+n), api.OK, padded(all + tail)[len(all):])
		}
	}
}

func TestP7_3GetOfAnySymbolAtAnyPosition(t *testing.T) {
	d := dice(7)
	dc, ac := full(t)
	order := zigzag()
	for i := 1; i < 64; i++ {
		l, begun := upTo(i)
		ahead := coded(t, dc, ac, l)
		for value := range 256 {
			what := fmt.Sprintf("symbol %02x at %d", value, i)
			run, size := value>>4, value&15
			text := ahead + code(t, ac, value)
			tail := "0101010101010101010"
			switch {
			case value == 0:
				r := bits.NewReader(scan(text + tail))
				get(t, what, r, dc, ac, 0, begun, api.OK, padded(text + tail)[len(text):])
			case size > 10, size == 0 && run < 15, i+run > 63:
				r := bits.NewReader(scan(text + tail))
				get(t, what, r, dc, ac, 0, api.Block{}, api.ErrForm, padded(text + tail)[len(text):])
				// It is refused even if there are no bits behind it.
				front := strings.Repeat("0", (8-len(text)%8)%8)
				r = bits.NewReader(append(scan(front+text), 0xff, 0xd9))
				r.Get(len(front))
				get(t, what, r, dc, ac, 0, api.Block{}, api.ErrForm, "")
			default:
				b := begun
				if size > 0 {
					b[order[i+run]] = d.sized(size)
					text += digits(b[order[i+run]])
				}
				if i+run < 63 {
					text += code(t, ac, 0)
				}
				r := bits.NewReader(scan(text + tail))
				get(t, what, r, dc, ac, 0, b, api.OK, padded(text + tail)[len(text):])
			}
		}
	}
}

func TestP7_3GetOfRunsOf16Zeros(t *testing.T) {
	dc, ac := full(t)
	_, begun := upTo(48)
	for _, c := range []struct {
		symbols string
		b       api.Block
		e       api.Errno
	}{
		{"00 f0 f0 f0 00", block(), api.OK},
		{"00 f0 f0 00", block(), api.OK},
		{"01:1 f0 00", block(0, 1), api.OK},
		{"00 01:1 f0 00", block(1, 1), api.OK},
		{"00 f0 f0 f0 e1:1", block(63, 1), api.OK},
		{"00 f0 f0 e1:1 f0", block(47, 1), api.OK},
		{"00 e1:1 f0 f0 f0", block(15, 1), api.OK},
		{"00 d1:1 01:0 f0 f0 f0", block(14, 1, 15, -1), api.OK},
		{"00 f0 e1:1 f0 f0", block(31, 1), api.OK},
		{"01:1" + ones(47) + " f0", begun, api.OK},
		{"00 f0 f0 f0 f0", block(), api.ErrForm},
		{"00 f0 f0 f0 f1", block(), api.ErrForm},
		{"00 f0 f0 f0 fa", block(), api.ErrForm},
		{"00 f1:1 f0 f0 f0", block(), api.ErrForm},
		{"00 f0 f0 f1:1 f0", block(), api.ErrForm},
		{"00 f0 f0 f1:0 f1", block(), api.ErrForm},
		{"00" + ones(62) + " f0", block(), api.ErrForm},
		{"00" + ones(62) + " 11", block(), api.ErrForm},
	} {
		text := coded(t, dc, ac, told(t, c.symbols))
		front := strings.Repeat("0", (8-len(text)%8)%8)
		for _, rest := range []string{"", "1", "000000000000000000000"} {
			all := front + text + rest
			r := bits.NewReader(scan(all))
			r.Get(len(front))
			get(t, c.symbols, r, dc, ac, 0, c.b, c.e, padded(all)[len(front+text):])
		}
	}
}

func TestP7_3GetOfABlockThatIsNotValidInTheEnd(t *testing.T) {
	dc, ac := full(t)
	for _, c := range [][3]int{
		{1023, 1, 1}, {1023, 1024, 1}, {1023, 2047, 1}, {1022, 2, 1}, {0, 1024, 1}, {0, 2047, 1}, {-1023, 2047, 1},
		{-1023, -1, 1}, {-1023, -1024, 1}, {-1023, -2047, 1}, {-1022, -2, 1}, {0, -1024, 1}, {0, -2047, 1}, {1023, -2047, 1},
		{1023, 0, 0}, {1022, 1, 0}, {0, 1023, 0}, {-1, 1024, 0}, {-1023, 2046, 0},
		{-1023, 0, 0}, {-1022, -1, 0}, {0, -1023, 0}, {1, -1024, 0}, {1023, -2046, 0},
	} {
		prev, n := c[0], c[1]
		for _, behind := range []string{"00", "03:010 00", "f0 f0 f0 e1:1", "f0 f0 e1:1 f0", ones(63)} {
			l := append([]piece{{false, len(digits(n)), digits(n)}}, told(t, "00 "+behind)[1:]...)
			text := coded(t, dc, ac, l)
			want, e := block(0, prev+n), api.OK
			switch {
			case c[2] == 1:
				want, e = block(), api.ErrForm
			case behind == "03:010 00":
				want = block(0, prev+n, 1, -5)
			case behind == "f0 f0 f0 e1:1":
				want = block(0, prev+n, 63, 1)
			case behind == "f0 f0 e1:1 f0":
				want = block(0, prev+n, 47, 1)
			case behind == ones(63):
				want = filled(1)
				want[0] = prev + n
			}
			for _, rest := range []string{"", "0110101"} {
				r := bits.NewReader(scan(text + rest))
				get(t, fmt.Sprint(c, behind), r, dc, ac, prev, want, e, padded(text + rest)[len(text):])
			}
			if c[2] == 0 {
				continue
			}
			// What goes wrong earlier along the bits is told first.
			end := (len(text) - 2) / 8 * 8
			r := bits.NewReader(scan(text[:end]))
			if b, e := coef.Get(r, dc, ac, prev); b != (api.Block{}) || e != api.ErrShort {
				t.Error(c, behind, "cut off:", b, e)
			}
		}
	}
}

// drawn is the symbols of a random block, not always as Put would choose them,
// and the block.
func drawn(prev int, d *dice) ([]piece, api.Block) {
	first := min(max(prev+d.around(1<<d.below(11)), -1023), 1023)
	b := block(0, first)
	s := digits(first - prev)
	l := []piece{{false, len(s), s}}
	order := zigzag()
	for i := 1; i < 64; i++ {
		switch {
		case d.below(12) == 0:
			return append(l, piece{true, 0x00, ""}), b
		case d.below(4) == 0 && i+15 < 64:
			l = append(l, piece{true, 0xf0, ""})
			i += 15
		default:
			run := d.below(min(1+d.below(16), 64-i))
			i += run
			b[order[i]] = d.sized(1 + d.below(10))
			s := digits(b[order[i]])
			l = append(l, piece{true, 16*run + len(s), s})
		}
	}
	return l, b
}

func TestP7_3GetOfOneBlockAfterAnother(t *testing.T) {
	d := dice(8)
	for k := range 20 {
		dc, ac := suited(t, 12, &d), suited(t, 256, &d)
		var want []api.Block
		text, prev := "", 0
		for range 40 {
			l, b := drawn(prev, &d)
			text += coded(t, dc, ac, l)
			want = append(want, b)
			prev = b[0]
		}
		r := bits.NewReader(append(scan(text), 0xff, 0xd9))
		reads(t, fmt.Sprint("list ", k), r, dc, ac, want)
		if s := left(r); s != padded(text)[len(text):] {
			t.Error(k, "left:", s)
		}
	}
}

func TestP7_4ABlockThatWasPutIsReadBack(t *testing.T) {
	d := dice(9)
	for i, b := range blocks() {
		dc, ac := suited(t, 12, &d), suited(t, 256, &d)
		for ahead, prev := range previous {
			w := bits.NewWriter()
			w.Put(0, ahead)
			if e := coef.Put(w, dc, ac, prev, b); e != api.OK {
				t.Fatal(i, "Put:", e)
			}
			r := bits.NewReader(w.Bytes())
			r.Get(ahead)
			get(t, fmt.Sprint("block ", i), r, dc, ac, prev, b, api.OK, padded(strings.Repeat("1", w.Count()))[w.Count():])
		}
	}
}

func TestP7_4BlocksThatWerePutAreReadBack(t *testing.T) {
	d := dice(10)
	for k := range 30 {
		dc, ac := suited(t, 12, &d), suited(t, 256, &d)
		var l []api.Block
		for range k * 5 {
			l = append(l, random(1+d.below(70), &d))
		}
		w := bits.NewWriter()
		puts(t, fmt.Sprint("list ", k), w, dc, ac, l)
		r := bits.NewReader(w.Bytes())
		reads(t, fmt.Sprint("list ", k), r, dc, ac, l)
		if n := len(left(r)); n > 7 || r.At() != len(w.Bytes()) {
			t.Error(k, "left:", n, "At:", r.At())
		}
	}
}

// optimized is the table that suits counts, which has codes for just what was
// counted.
func optimized(t *testing.T, counts []int) *huff.Table {
	t.Helper()
	s, e := tuned.Spec(counts)
	if e != api.OK {
		t.Fatal("Spec:", e)
	}
	h := table(t, s)
	for v, n := range counts {
		if _, _, ok := h.Code(v); ok != (n > 0) {
			t.Error("Code of", v, "counted", n, ok)
		}
	}
	return h
}

func TestP7_5OptimizedTablesHaveAllCodes(t *testing.T) {
	d := dice(11)
	l := [][]api.Block{{{}}, {filled(1)}, {block(63, -9)}, blocks()}
	for _, b := range blocks() {
		l = append(l, []api.Block{b})
	}
	for k := range 60 {
		var some []api.Block
		for range 1 + k*2 {
			some = append(some, random(1+d.below(70), &d))
		}
		l = append(l, some)
	}
	for k, some := range l {
		dc, ac := make([]int, 256), make([]int, 256)
		cost, prev := 0, 0
		for _, b := range some {
			for _, p := range symbols(prev, b) {
				cost += len(p.bits)
			}
			dc, ac, _ = coef.Tally(dc, ac, prev, b)
			prev = b[0]
		}
		x, y := optimized(t, dc), optimized(t, ac)
		w := bits.NewWriter()
		puts(t, fmt.Sprint("list ", k), w, x, y, some)
		m, _ := tuned.Cost(x.Spec(), dc)
		n, _ := tuned.Cost(y.Spec(), ac)
		if w.Count() != m+n+cost {
			t.Error(k, "Count:", w.Count(), "not", m+n+cost)
		}
		reads(t, fmt.Sprint("list ", k), bits.NewReader(w.Bytes()), x, y, some)
	}
}
