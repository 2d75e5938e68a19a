package bits_test

import (
	"bytes"
	"fmt"
	"math"
	"slices"
	"strings"
	"testing"

	"clerestory/api"
	"clerestory/bits"
)

// dice is a source of numbers that are the same in every run.
type dice uint64

// below is the next number, less than n.
func (d *dice) below(n int) int {
	*d = *d*6364136223846793005 + 1442695040888963407
	return int(uint64(*d)>>33) % n
}

// overwrite writes over some bytes and what spare capacity they have.
func overwrite(b []byte) {
	b = b[:cap(b)]
	for i := range b {
		b[i] = 0xaa
	}
}

// digits is a number in count binary digits.
func digits(value, count int) string {
	if count == 0 {
		return ""
	}
	return fmt.Sprintf("%0*b", count, value)
}

// number is what binary digits are.
func number(s string) int {
	n := 0
	for _, c := range s {
		n = 2*n + int(c-'0')
	}
	return n
}

// scan is the scan bytes of bits that are written as binary digits.
func scan(s string) []byte {
	for len(s)%8 != 0 {
		s += "1"
	}
	var l []byte
	for i := 0; i < len(s); i += 8 {
		n := number(s[i : i+8])
		l = append(l, byte(n))
		if n == 255 {
			l = append(l, 0)
		}
	}
	return l
}

// put puts bits, which must be possible.
func put(t *testing.T, w *bits.Writer, value, count int) {
	t.Helper()
	if e := w.Put(value, count); e != api.OK {
		t.Fatal("Put", value, count, e)
	}
}

// putAll puts bits that are written as binary digits, some at a time.
func putAll(t *testing.T, w *bits.Writer, s string, d *dice) {
	t.Helper()
	for len(s) > 0 {
		n := min(d.below(25), len(s))
		put(t, w, number(s[:n]), n)
		s = s[n:]
	}
}

// random is so many binary digits, of which one in rare is 0.
func random(n, rare int, d *dice) string {
	var s strings.Builder
	for range n {
		if d.below(rare) == 0 {
			s.WriteByte('0')
		} else {
			s.WriteByte('1')
		}
	}
	return s.String()
}

// holds compares a writer with the bits that it should hold.
func holds(t *testing.T, what string, w *bits.Writer, s string) {
	t.Helper()
	if n := w.Count(); n != len(s) {
		t.Error(what, "Count:", n, "not", len(s))
	}
	if b := w.Bytes(); !bytes.Equal(b, scan(s)) {
		t.Errorf("%s Bytes: %x, not %x", what, b, scan(s))
	}
}

func TestExample1(t *testing.T) {
	w := bits.NewWriter()
	put(t, w, 255, 8)
	put(t, w, 0, 1)
	if b := w.Bytes(); !bytes.Equal(b, []byte{0xff, 0, 0x7f}) {
		t.Errorf("%x", b)
	}
}

func TestP4_1ANewWriterHasNoBits(t *testing.T) {
	w := bits.NewWriter()
	if w == nil || w.Count() != 0 || len(w.Bytes()) != 0 {
		t.Error(w.Count(), w.Bytes())
	}
}

func TestP4_1PutWithinItsBounds(t *testing.T) {
	for count := range 25 {
		last := 1<<count - 1
		for _, value := range []int{0, 1, last / 3, last / 2, last - 1, last} {
			if value < 0 || value > last {
				continue
			}
			for ahead := range 9 {
				w := bits.NewWriter()
				put(t, w, 1<<ahead/3, ahead)
				put(t, w, value, count)
				holds(t, "put", w, digits(1<<ahead/3, ahead)+digits(value, count))
			}
		}
	}
}

func TestP4_1PutBeyondItsBounds(t *testing.T) {
	type call struct{ value, count int }
	var l []call
	for count := range 25 {
		for _, value := range []int{1 << count, 1<<count + 1, 1<<(count+8) + 1, 1 << 24, 1 << 32, 1<<32 + 1, math.MaxInt, -1, -2, -1 << count, math.MinInt} {
			l = append(l, call{value, count})
		}
	}
	for _, count := range []int{-1, -8, -64, math.MinInt, 25, 26, 31, 32, 33, 62, 63, 64, 65, 256, 1 << 32, math.MaxInt} {
		for _, value := range []int{0, 1, 255, 1<<24 - 1, -1, math.MaxInt, math.MinInt} {
			l = append(l, call{value, count})
		}
	}
	w := bits.NewWriter()
	s := ""
	for i, c := range l {
		if e := w.Put(c.value, c.count); e != api.ErrRange {
			t.Error("Put", c, e)
		}
		holds(t, "refused", w, s)
		if i%5 == 0 {
			put(t, w, i%7, 3)
			s += digits(i%7, 3)
			holds(t, "put behind what was refused", w, s)
		}
	}
}

func TestP4_1PutOfNoBits(t *testing.T) {
	w := bits.NewWriter()
	put(t, w, 0, 0)
	holds(t, "nothing", w, "")
	put(t, w, 5, 3)
	put(t, w, 0, 0)
	holds(t, "nothing behind three", w, "101")
	put(t, w, 0, 5)
	put(t, w, 0, 0)
	holds(t, "nothing behind a byte", w, "10100000")
}

func TestP4_1TheFirstBitIsTheMostSignificant(t *testing.T) {
	w := bits.NewWriter()
	put(t, w, 0x123456, 24)
	put(t, w, 0xabc, 12)
	put(t, w, 0xd, 4)
	if b := w.Bytes(); !bytes.Equal(b, []byte{0x12, 0x34, 0x56, 0xab, 0xcd}) || w.Count() != 40 {
		t.Errorf("%x %d", b, w.Count())
	}
}

func TestP4_1TheLastByteIsFilledUp(t *testing.T) {
	for _, c := range []struct {
		value, count int
		want         []byte
	}{
		{0, 1, []byte{0x7f}},
		{0, 7, []byte{0x01}},
		{0, 8, []byte{0x00}},
		{0, 9, []byte{0x00, 0x7f}},
		{1, 1, []byte{0xff, 0}},
		{3, 2, []byte{0xff, 0}},
		{127, 7, []byte{0xff, 0}},
		{255, 8, []byte{0xff, 0}},
		{254, 8, []byte{0xfe}},
		{511, 9, []byte{0xff, 0, 0xff, 0}},
		{0x00ff00, 24, []byte{0, 0xff, 0, 0}},
		{0xffffff, 24, []byte{0xff, 0, 0xff, 0, 0xff, 0}},
		{0x0ff, 12, []byte{0x0f, 0xff, 0}},
	} {
		w := bits.NewWriter()
		put(t, w, c.value, c.count)
		if b := w.Bytes(); !bytes.Equal(b, c.want) || w.Count() != c.count {
			t.Errorf("%d bits of %d: %x, Count %d", c.count, c.value, b, w.Count())
		}
	}
}

func TestP4_1BitsBehindACallOfBytes(t *testing.T) {
	d := dice(1)
	w := bits.NewWriter()
	s := ""
	for range 600 {
		more := random(d.below(25), 1+d.below(4), &d)
		put(t, w, number(more), len(more))
		s += more
		holds(t, "once", w, s)
		holds(t, "again", w, s)
	}
}

func TestP4_1ManyBits(t *testing.T) {
	d := dice(2)
	for n := range 70 {
		for _, rare := range []int{1, 2, 10, 1 << 30} {
			s := random(n*n*3, rare, &d)
			w := bits.NewWriter()
			putAll(t, w, s, &d)
			holds(t, "many", w, s)
		}
	}
}

func TestP4_1BytesAreNewMemory(t *testing.T) {
	d := dice(3)
	for _, n := range []int{1, 7, 8, 9, 30, 2047, 2048, 2049, 5000} {
		s := random(n, 3, &d)
		w := bits.NewWriter()
		putAll(t, w, s, &d)
		first, second := w.Bytes(), w.Bytes()
		overwrite(first)
		if !bytes.Equal(second, scan(s)) {
			t.Error(n, "two results share memory")
		}
		overwrite(second)
		holds(t, "written over", w, s)
		put(t, w, 9, 4)
		holds(t, "gone on", w, s+"1001")
	}
}

func TestP4_1WritersAreIndependent(t *testing.T) {
	d := dice(4)
	v, w := bits.NewWriter(), bits.NewWriter()
	a, b := "", ""
	for range 300 {
		x, y := random(d.below(25), 2, &d), random(d.below(25), 2, &d)
		put(t, v, number(x), len(x))
		put(t, w, number(y), len(y))
		a, b = a+x, b+y
	}
	holds(t, "first", v, a)
	holds(t, "second", w, b)
}

func TestP4_1CopiesOfAWriterAreIndependent(t *testing.T) {
	d := dice(5)
	l := make([]bits.Writer, 8)
	s := make([]string, len(l))
	l[0] = *bits.NewWriter()
	for range 4000 {
		i, k := d.below(len(l)), d.below(len(l))
		if d.below(20) == 0 {
			l[i], s[i] = l[k], s[k]
		}
		more := random(d.below(25), 2, &d)
		put(t, &l[i], number(more), len(more))
		s[i] += more
		if d.below(50) == 0 {
			holds(t, "meanwhile", &l[k], s[k])
		}
	}
	for i := range l {
		holds(t, "copy", &l[i], s[i])
	}
}

func TestP4_1AWriterThatIsSetBack(t *testing.T) {
	for _, n := range []int{0, 5, 8, 2040, 2047, 2048, 2050, 4096} {
		d := dice(6)
		s := random(n, 2, &d)
		w := bits.NewWriter()
		putAll(t, w, s, &d)
		before := *w
		putAll(t, w, strings.Repeat("01", 3000), &d)
		longer := *w
		*w = before
		putAll(t, w, strings.Repeat("100", 2000), &d)
		holds(t, "as it was before", &before, s)
		holds(t, "gone on at first", &longer, s+strings.Repeat("01", 3000))
		holds(t, "gone on in another way", w, s+strings.Repeat("100", 2000))
	}
}

// model is a reader that looks at the bytes anew for each bit.
type model struct {
	b        []byte
	at, left int // at is behind the byte that left bits are left of
}

// bit is the next bit.
func (m *model) bit() (int, api.Errno) {
	if m.left > 0 {
		m.left--
		if m.b[m.at-1] == 0 && m.at > 1 && m.b[m.at-2] == 0xff {
			return 1, api.OK
		}
		return int(m.b[m.at-1]) / (1 << m.left) % 2, api.OK
	}
	if m.at >= len(m.b) {
		return 0, api.ErrShort
	}
	if m.b[m.at] != 0xff {
		m.at, m.left = m.at+1, 8
		return m.bit()
	}
	if m.at+1 >= len(m.b) {
		return 0, api.ErrShort
	}
	if m.b[m.at+1] != 0 {
		return 0, api.ErrMark
	}
	m.at, m.left = m.at+2, 7
	return 1, api.OK
}

// get is the next count bits.
func (m *model) get(count int) (int, api.Errno) {
	if count < 0 || count > 24 {
		return 0, api.ErrRange
	}
	before, n := *m, 0
	for range count {
		x, e := m.bit()
		if e != api.OK {
			*m = before
			return 0, e
		}
		n = 2*n + x
	}
	return n, api.OK
}

// skip passes by the rest of the byte.
func (m *model) skip() int {
	n := m.left
	m.left = 0
	return n
}

// marker is the marker that comes next.
func (m *model) marker() (int, api.Errno) {
	if m.at+2 > len(m.b) {
		return 0, api.ErrShort
	}
	if m.b[m.at] != 0xff || m.b[m.at+1] == 0 || m.b[m.at+1] == 0xff {
		return 0, api.ErrForm
	}
	m.at, m.left = m.at+2, 0
	return int(m.b[m.at-1]), api.OK
}

// gets reads count bits, and holds what comes against what must.
func gets(t *testing.T, what string, r *bits.Reader, count, want int, e api.Errno, at int) {
	t.Helper()
	if n, f := r.Get(count); n != want || f != e || r.At() != at {
		t.Errorf("%s: Get(%d): %d %d, At %d; not %d %d, At %d", what, count, n, f, r.At(), want, e, at)
	}
}

// bit reads one bit, and holds what comes against what must.
func bit(t *testing.T, what string, r *bits.Reader, want int, e api.Errno, at int) {
	t.Helper()
	if n, f := r.Bit(); n != want || f != e || r.At() != at {
		t.Errorf("%s: Bit: %d %d, At %d; not %d %d, At %d", what, n, f, r.At(), want, e, at)
	}
}

// marker reads a marker, and holds what comes against what must.
func marker(t *testing.T, what string, r *bits.Reader, want int, e api.Errno, at int) {
	t.Helper()
	if n, f := r.Marker(); n != want || f != e || r.At() != at {
		t.Errorf("%s: Marker: %d %d, At %d; not %d %d, At %d", what, n, f, r.At(), want, e, at)
	}
}

// skips skips, and holds what comes against what must.
func skips(t *testing.T, what string, r *bits.Reader, want, at int) {
	t.Helper()
	if n := r.Skip(); n != want || r.At() != at {
		t.Errorf("%s: Skip: %d, At %d; not %d, At %d", what, n, r.At(), want, at)
	}
}

func TestP4_2PlainBytesBitByBit(t *testing.T) {
	r := bits.NewReader([]byte{0xa5, 0x00, 0xfe})
	for i, c := range "101001010000000011111110" {
		bit(t, "plain", r, int(c-'0'), api.OK, i/8+1)
	}
	for range 3 {
		bit(t, "at the end", r, 0, api.ErrShort, 3)
	}
}

func TestP4_2PlainBytesByAnyCount(t *testing.T) {
	b := []byte{0x12, 0x34, 0x56, 0x78, 0x9a, 0xbc, 0xde, 0xf0}
	all := ""
	for _, x := range b {
		all += digits(int(x), 8)
	}
	for ahead := range 25 {
		for count := range 25 {
			r := bits.NewReader(b)
			gets(t, "ahead", r, ahead, number(all[:ahead]), api.OK, (ahead+7)/8)
			gets(t, "behind", r, count, number(all[ahead:ahead+count]), api.OK, (ahead+count+7)/8)
			bit(t, "next", r, number(all[ahead+count:][:1]), api.OK, (ahead+count)/8+1)
		}
	}
}

func TestP4_2GetWithCountsAtTheBoundsAndBeyond(t *testing.T) {
	r := bits.NewReader([]byte{0xab, 0xcd, 0xef, 0x01})
	for _, b := range [][]byte{nil, {0x12}, {0xff}, {0xff, 0xd9}, {1, 2, 3, 4, 5}} {
		for _, count := range []int{-1, -24, math.MinInt, 25, 26, 32, 63, 64, 256, 1 << 32, math.MaxInt} {
			gets(t, "wrong count", bits.NewReader(b), count, 0, api.ErrRange, 0)
			gets(t, "wrong count, on the way", r, count, 0, api.ErrRange, r.At())
		}
		gets(t, "no bits", bits.NewReader(b), 0, 0, api.OK, 0)
	}
	gets(t, "no bits", r, 0, 0, api.OK, 0)
	gets(t, "24", r, 24, 0xabcdef, api.OK, 3)
	gets(t, "no bits", r, 0, 0, api.OK, 3)
	gets(t, "8", r, 8, 1, api.OK, 4)
	gets(t, "no bits at the end", r, 0, 0, api.OK, 4)
	gets(t, "wrong count at the end", r, 25, 0, api.ErrRange, 4)
	gets(t, "the end", r, 1, 0, api.ErrShort, 4)
}

func TestP4_2AStuffedByteCountsAsOne(t *testing.T) {
	r := bits.NewReader([]byte{0xff, 0x00, 0x12, 0xff, 0x00, 0xff, 0x00, 0x00})
	for range 8 {
		bit(t, "ff 00", r, 1, api.OK, 2)
	}
	gets(t, "12", r, 8, 0x12, api.OK, 3)
	gets(t, "ff 00 ff 00 and four bits", r, 20, 0xffff0, api.OK, 8)
	gets(t, "more than there are", r, 5, 0, api.ErrShort, 8)
	gets(t, "four bits", r, 4, 0, api.OK, 8)
	bit(t, "the end", r, 0, api.ErrShort, 8)

	r = bits.NewReader([]byte{0xff, 0x00, 0xff, 0x00, 0xff, 0x00})
	gets(t, "ones", r, 24, 0xffffff, api.OK, 6)
}

func TestP4_2AtAByteFF(t *testing.T) {
	for _, ahead := range [][]byte{nil, {0x12}, {0x00}, {0xff, 0x00}, {0xff, 0x00, 0x00}} {
		r := bits.NewReader(append(slices.Clone(ahead), 0xff))
		whole := 8 * len(bytes.ReplaceAll(ahead, []byte{0xff, 0}, []byte{0xff}))
		if _, e := r.Get(whole); e != api.OK {
			t.Error(ahead, e)
		}
		bit(t, "nothing behind ff", r, 0, api.ErrShort, len(ahead))
		gets(t, "nothing behind ff", r, 24, 0, api.ErrShort, len(ahead))
		for x := 1; x < 256; x++ {
			r := bits.NewReader(append(slices.Clone(ahead), 0xff, byte(x), 0, 0, 0))
			gets(t, "across a marker", r, whole+1, 0, api.ErrMark, 0)
			if _, e := r.Get(whole); e != api.OK {
				t.Error(ahead, e)
			}
			bit(t, "another byte behind ff", r, 0, api.ErrMark, len(ahead))
			gets(t, "another byte behind ff", r, 24, 0, api.ErrMark, len(ahead))
			bit(t, "still there", r, 0, api.ErrMark, len(ahead))
		}
	}
}

func TestP4_2AReaderDoesNotMoveOnAnError(t *testing.T) {
	for _, c := range []struct {
		end []byte
		e   api.Errno
	}{
		{nil, api.ErrShort},
		{[]byte{0xff}, api.ErrShort},
		{[]byte{0xff, 0xd9, 0x00}, api.ErrMark},
		{[]byte{0xff, 0xff, 0x00}, api.ErrMark},
		{[]byte{0xff, 0x01, 0xff, 0x00}, api.ErrMark},
	} {
		b := append([]byte{0x96, 0xff, 0x00}, c.end...)
		all := "1001011011111111"
		for ahead := range 17 {
			r := bits.NewReader(b)
			at := []int{0, 1, 3}[(ahead+7)/8]
			gets(t, "ahead", r, ahead, number(all[:ahead]), api.OK, at)
			for count := 17 - ahead; count <= 24; count++ {
				gets(t, "too many", r, count, 0, c.e, at)
			}
			gets(t, "the rest", r, 16-ahead, number(all[ahead:]), api.OK, 3)
			bit(t, "the end", r, 0, c.e, 3)
		}
	}
}

func TestP4_2Skip(t *testing.T) {
	b := []byte{0x35, 0xff, 0x00, 0xca}
	for n := range 9 {
		r := bits.NewReader(b)
		at := (n + 7) / 8
		gets(t, "begun", r, n, 0x35>>(8-n), api.OK, at)
		skips(t, "begun", r, (8-n)%8, at)
		skips(t, "again", r, 0, at)
		if n == 0 {
			gets(t, "skipped nothing", r, 8, 0x35, api.OK, 1)
		}
		gets(t, "next byte", r, 4, 15, api.OK, 3)
		skips(t, "a stuffed byte", r, 4, 3)
		gets(t, "last byte", r, 4, 0xc, api.OK, 4)
		skips(t, "last byte", r, 4, 4)
		skips(t, "the end", r, 0, 4)
		bit(t, "the end", r, 0, api.ErrShort, 4)
	}
	skips(t, "no bytes", bits.NewReader(nil), 0, 0)
	r := bits.NewReader([]byte{0xff, 0xd0})
	skips(t, "ahead of a marker", r, 0, 0)
	bit(t, "ahead of a marker", r, 0, api.ErrMark, 0)
	skips(t, "ahead of a marker", r, 0, 0)
}

func TestP4_2TheBytesAreNotKeptAndNotChanged(t *testing.T) {
	whole := []byte{0x12, 0xff, 0x00, 0x34, 0xff, 0xd3, 0x56, 0x78}
	before := slices.Clone(whole)
	read := func(r *bits.Reader) {
		gets(t, "read", r, 24, 0x12ff34, api.OK, 4)
		marker(t, "read", r, 0xd3, api.OK, 6)
		gets(t, "read", r, 7, 0x2b, api.OK, 7)
		skips(t, "read", r, 1, 7)
		bit(t, "the end", r, 0, api.ErrShort, 7)
	}
	first, second, third := bits.NewReader(whole[:7]), bits.NewReader(whole[:7]), bits.NewReader(whole[:7])
	read(first)
	if !bytes.Equal(whole, before) {
		t.Error("changed", whole)
	}
	gets(t, "begun", second, 12, 0x12f, api.OK, 3)
	overwrite(whole)
	gets(t, "gone on", second, 12, 0xf34, api.OK, 4)
	read(third)
}

func TestP4_2CopiesOfAReaderAreIndependent(t *testing.T) {
	r := bits.NewReader([]byte{0x12, 0xff, 0x00, 0x34, 0xff, 0xd3, 0x56})
	gets(t, "ahead", r, 10, 0x12<<2|3, api.OK, 3)
	c := *r
	skips(t, "the first", r, 6, 3)
	gets(t, "the first", r, 8, 0x34, api.OK, 4)
	gets(t, "the copy", &c, 14, 0x3f<<8|0x34, api.OK, 4)
	marker(t, "the copy", &c, 0xd3, api.OK, 6)
	bit(t, "the first", r, 0, api.ErrMark, 4)
	gets(t, "the copy", &c, 8, 0x56, api.OK, 7)
	marker(t, "the first", r, 0xd3, api.OK, 6)
}

func TestP4_3MarkerWithBitsLeft(t *testing.T) {
	for _, first := range [][]byte{{0x35}, {0xff, 0x00}} {
		for n := range 9 {
			r := bits.NewReader(append(slices.Clone(first), 0xff, 0xd5, 0xff, 0xd9, 0x80))
			if n == 0 {
				marker(t, "not begun", r, 0, api.ErrForm, 0)
				continue
			}
			at := len(first)
			gets(t, "begun", r, n, int(first[0])>>(8-n), api.OK, at)
			marker(t, "with bits left", r, 0xd5, api.OK, at+2)
			skips(t, "behind a marker", r, 0, at+2)
			marker(t, "one behind the other", r, 0xd9, api.OK, at+4)
			bit(t, "behind markers", r, 1, api.OK, at+5)
		}
	}
}

func TestP4_3MarkerWithTooFewBytes(t *testing.T) {
	for _, end := range [][]byte{nil, {0x00}, {0x12}, {0xff}} {
		marker(t, "too few", bits.NewReader(end), 0, api.ErrShort, 0)
		for n := range 8 {
			r := bits.NewReader(append([]byte{0x35}, end...))
			gets(t, "begun", r, n+1, 0x35>>(7-n), api.OK, 1)
			marker(t, "too few", r, 0, api.ErrShort, 1)
			marker(t, "again", r, 0, api.ErrShort, 1)
			gets(t, "not moved", r, 7-n, 0x35&(1<<(7-n)-1), api.OK, 1)
		}
	}
}

func TestP4_3WhatIsAMarker(t *testing.T) {
	for first := range 256 {
		for second := range 256 {
			b := []byte{byte(first), byte(second), 0xff, 0xd9}
			r := bits.NewReader(b)
			if first == 0xff && second != 0 && second != 0xff {
				marker(t, "a marker", r, second, api.OK, 2)
				marker(t, "behind it", r, 0xd9, api.OK, 4)
				marker(t, "the end", r, 0, api.ErrShort, 4)
			} else {
				marker(t, "none", r, 0, api.ErrForm, 0)
			}
		}
	}
}

func TestP4_3AReaderDoesNotMoveIfThereIsNoMarker(t *testing.T) {
	for _, end := range [][]byte{{0xff, 0x00}, {0xff, 0xff}, {0xff, 0xff, 0xd9}, {0x12, 0x34}, {0x00, 0xff, 0xd9}} {
		for n := range 8 {
			r := bits.NewReader(append([]byte{0x96}, end...))
			gets(t, "begun", r, n+1, 0x96>>(7-n), api.OK, 1)
			marker(t, "none", r, 0, api.ErrForm, 1)
			marker(t, "again", r, 0, api.ErrForm, 1)
			gets(t, "not moved", r, 7-n, 0x96&(1<<(7-n)-1), api.OK, 1)
			marker(t, "at the end of the byte", r, 0, api.ErrForm, 1)
		}
	}
}

func TestP4_3At(t *testing.T) {
	r := bits.NewReader([]byte{0x12, 0xff, 0x00, 0x34, 0xff, 0xd0, 0xff, 0x00, 0x01})
	at := func(want int) {
		t.Helper()
		if n := r.At(); n != want || r.At() != n {
			t.Errorf("At: %d, not %d", n, want)
		}
	}
	at(0)
	for _, want := range []int{1, 1, 1, 1, 1, 1, 1, 1, 3, 3, 3, 3, 3, 3, 3, 3, 4} {
		r.Bit()
		at(want)
	}
	r.Skip()
	at(4)
	r.Bit()
	at(4)
	r.Marker()
	at(6)
	r.Get(0)
	at(6)
	r.Bit()
	at(8)
	r.Get(7)
	at(8)
	r.Get(9)
	at(8)
	r.Get(8)
	at(9)
	r.Bit()
	at(9)
}

func TestP4_3NilObjects(t *testing.T) {
	var w *bits.Writer
	for _, c := range [][2]int{{0, 0}, {1, 1}, {-1, 3}, {0, 25}, {1 << 24, 24}} {
		if e := w.Put(c[0], c[1]); e != api.ErrShort {
			t.Error("Put", c, e)
		}
	}
	if w.Count() != 0 || len(w.Bytes()) != 0 {
		t.Error(w.Count(), w.Bytes())
	}
	var r *bits.Reader
	bit(t, "nil", r, 0, api.ErrShort, 0)
	for _, count := range []int{0, 1, 24, 25, -1, math.MaxInt, math.MinInt} {
		gets(t, "nil", r, count, 0, api.ErrShort, 0)
	}
	marker(t, "nil", r, 0, api.ErrShort, 0)
	skips(t, "nil", r, 0, 0)
}

// some is bytes among which ff, 00 and markers are common.
func some(n int, d *dice) []byte {
	l := []byte{0xff, 0xff, 0xff, 0x00, 0x00, 0x00, 0x00, 0xd0, 0xd9, 0x01, 0xfe, 0x80}
	b := make([]byte, n)
	for i := range b {
		if b[i] = byte(d.below(256)); d.below(3) > 0 {
			b[i] = l[d.below(len(l))]
		}
	}
	return b
}

// step makes one call on a reader and on its model.
func step(t *testing.T, what string, r *bits.Reader, m *model, d *dice) {
	t.Helper()
	switch d.below(8) {
	case 0, 1:
		want, e := m.bit()
		bit(t, what, r, want, e, m.at)
	case 2:
		want := m.skip()
		skips(t, what, r, want, m.at)
	case 3:
		want, e := m.marker()
		marker(t, what, r, want, e, m.at)
	default:
		count := d.below(27) - 1
		want, e := m.get(count)
		gets(t, what, r, count, want, e, m.at)
	}
}

func TestP4_2And3AnyCallsOnAnyBytes(t *testing.T) {
	d := dice(7)
	for i := range 4000 {
		b := some(d.below(40), &d)
		r, m := bits.NewReader(b), &model{b: b}
		for range 40 {
			step(t, fmt.Sprintf("%d: %x", i, b), r, m, &d)
		}
		if t.Failed() {
			return
		}
	}
}

// ones holds that a reader has nothing left but fewer than 8 bits 1.
func ones(t *testing.T, r *bits.Reader) {
	t.Helper()
	for n := 0; ; n++ {
		x, e := r.Bit()
		if e == api.ErrShort {
			return
		}
		if x != 1 || e != api.OK || n == 7 {
			t.Fatal("behind the bits:", n, x, e)
		}
	}
}

func TestP4_4BitsAreReadBackByTheSameCounts(t *testing.T) {
	d := dice(8)
	for i := range 400 {
		w := bits.NewWriter()
		var l []string
		for range i {
			s := random(d.below(25), 1+i%7, &d)
			put(t, w, number(s), len(s))
			l = append(l, s)
		}
		r := bits.NewReader(w.Bytes())
		for _, s := range l {
			if n, e := r.Get(len(s)); n != number(s) || e != api.OK {
				t.Fatal(i, s, n, e)
			}
		}
		ones(t, r)
	}
}

func TestP4_4BitsAreReadBackByOtherCounts(t *testing.T) {
	d := dice(9)
	for n := range 400 {
		s := random(n*n/10, 1+n%7, &d)
		w := bits.NewWriter()
		putAll(t, w, s, &d)
		for range 3 {
			r := bits.NewReader(w.Bytes())
			for left := s; len(left) > 0; {
				count := min(d.below(25), len(left))
				if x, e := r.Get(count); x != number(left[:count]) || e != api.OK {
					t.Fatal(n, count, x, e)
				}
				left = left[count:]
			}
			ones(t, r)
		}
	}
}

func TestP4_4BitsAreReadBackOneByOne(t *testing.T) {
	d := dice(10)
	for n := range 100 {
		s := random(n, 1+n%5, &d)
		w := bits.NewWriter()
		putAll(t, w, s, &d)
		r := bits.NewReader(w.Bytes())
		for i, c := range s {
			if x, e := r.Bit(); x != int(c-'0') || e != api.OK {
				t.Fatal(s, i, x, e)
			}
		}
		ones(t, r)
	}
}

func TestP4_5ScanBytesHaveNoMarker(t *testing.T) {
	d := dice(11)
	for n := range 300 {
		w := bits.NewWriter()
		putAll(t, w, random(n*n/5, 1+n%20, &d), &d)
		b := w.Bytes()
		for i, x := range b {
			if x == 0xff && (i+1 == len(b) || b[i+1] != 0) {
				t.Fatalf("%d: ff without 00 behind it: %x", n, b)
			}
		}
		r := bits.NewReader(b)
		// Not until ErrShort comes: a reader that does not move would never end it.
		for range len(b) - bytes.Count(b, []byte{0xff}) {
			if x, e := r.Marker(); x != 0 || e == api.OK {
				t.Fatalf("%d: a marker in %x at %d", n, b, r.At())
			}
			if _, e := r.Bit(); e != api.OK {
				t.Fatal(n, e)
			}
			r.Skip()
		}
		bit(t, "the end", r, 0, api.ErrShort, len(b))
		marker(t, "the end", r, 0, api.ErrShort, len(b))
	}
}

func TestP4_5EveryByteIsStuffed(t *testing.T) {
	for x := range 1 << 16 {
		w := bits.NewWriter()
		put(t, w, x, 16)
		if b := w.Bytes(); !bytes.Equal(b, scan(digits(x, 16))) {
			t.Errorf("%04x: %x", x, b)
		}
	}
}
