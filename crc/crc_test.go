package crc_test

import (
	"bytes"
	"hash/crc32"
	"math/bits"
	"slices"
	"testing"

	"clerestory/api"
	"clerestory/crc"
)

// expected is the checksum, bit by bit as the document says it.
func expected(b []byte) uint32 {
	register := uint32(0xffffffff)
	for _, x := range b {
		register ^= uint32(x)
		for range 8 {
			out := register & 1
			register >>= 1
			if out == 1 {
				register ^= 0xedb88320
			}
		}
	}
	return ^register
}

// text is some bytes, others for another seed.
func text(n, seed int) []byte {
	b := make([]byte, n)
	x := uint32(seed)*2654435761 + 12345
	for i := range b {
		x = x*1664525 + 1013904223
		b[i] = byte(x >> 24)
	}
	return b
}

// texts are bytes of every length up to some, and some special ones.
func texts() [][]byte {
	l := [][]byte{
		nil, {}, []byte("123456789"), make([]byte, 1), make([]byte, 4), make([]byte, 128),
		bytes.Repeat([]byte{255}, 4), bytes.Repeat([]byte{255}, 128), text(1000, 3), text(1<<16, 4),
	}
	for n := range 70 {
		l = append(l, text(n, n))
	}
	return l
}

// behind is bytes with a sum behind them, little-endian.
func behind(b []byte, sum uint32) []byte {
	return append(slices.Clone(b), byte(sum), byte(sum>>8), byte(sum>>16), byte(sum>>24))
}

func TestExample1(t *testing.T) {
	if s := crc.Sum([]byte("123456789")); s != 0xcbf43926 {
		t.Errorf("Sum: %08x", s)
	}
	for i, s := range []uint32{crc.Sum(), crc.Sum(nil), crc.Sum([]byte{}), crc.Sum(nil, []byte{}, nil)} {
		if s != 0 {
			t.Errorf("Sum of no bytes, %d: %08x", i, s)
		}
	}
}

func TestP2_1SumOfOnePart(t *testing.T) {
	for _, c := range []struct {
		text string
		want uint32
	}{
		{"\x00", 0xd202ef8d}, {"\xff", 0xff000000}, {"a", 0xe8b7be43}, {"abc", 0x352441c2}, {"IEND", 0xae426082},
		{"\xff\xff\xff\xff", 0xffffffff}, {"The quick brown fox jumps over the lazy dog", 0x414fa339},
	} {
		if s := crc.Sum([]byte(c.text)); s != c.want {
			t.Errorf("%q: %08x", c.text, s)
		}
	}
	for x := range 256 {
		if s := crc.Sum([]byte{byte(x)}); s != expected([]byte{byte(x)}) {
			t.Errorf("%02x: %08x", x, s)
		}
	}
	for _, b := range texts() {
		if s := crc.Sum(b); s != expected(b) || s != crc32.ChecksumIEEE(b) {
			t.Errorf("%d bytes: %08x", len(b), s)
		}
	}
}

func TestP2_1SumOfSeveralParts(t *testing.T) {
	a, b, c := text(5, 1), text(9, 2), text(128, 3)
	for i, parts := range [][][]byte{
		{}, {nil}, {nil, nil}, {a}, {a, b}, {b, a}, {a, b, c}, {c, c, c},
		{nil, a}, {a, nil}, {a, nil, b}, {{}, a, {}, {}, b, nil, c, {}},
	} {
		if s := crc.Sum(parts...); s != expected(bytes.Join(parts, nil)) {
			t.Errorf("%d: %08x", i, s)
		}
	}
	b = text(40, 7)
	for i := range len(b) + 1 {
		for j := i; j <= len(b); j++ {
			if s := crc.Sum(b[:i], b[i:j], b[j:]); s != expected(b) {
				t.Errorf("cut at %d and %d: %08x", i, j, s)
			}
		}
	}
	var single [][]byte
	for i := range b {
		single = append(single, b[i:i+1])
	}
	if s := crc.Sum(single...); s != expected(b) {
		t.Errorf("single bytes: %08x", s)
	}
}

func TestP2_1MoreGoesOn(t *testing.T) {
	for i, b := range texts() {
		if s := crc.More(0, b); s != expected(b) {
			t.Errorf("%d, behind no bytes: %08x", i, s)
		}
		if s := crc.More(expected(b), nil); s != expected(b) {
			t.Errorf("%d, no bytes behind: %08x", i, s)
		}
		for _, n := range []int{0, 1, 2, 3, 4, 5, 31, 128} {
			more := text(n, i)
			want := expected(append(slices.Clone(b), more...))
			if s := crc.More(expected(b), more); s != want {
				t.Errorf("%d, %d bytes behind: %08x", i, n, s)
			}
			if s := crc.More(crc.Sum(b[:len(b)/2], b[len(b)/2:]), more); s != want {
				t.Errorf("%d, %d bytes behind two parts: %08x", i, n, s)
			}
		}
	}
}

func TestP2_1MoreOfEverySumAtItsEdges(t *testing.T) {
	// Every number is the checksum of some bytes; the library's Update goes on
	// from any of them.
	for _, sum := range []uint32{0, 1, 15, 16, 255, 256, 1 << 28, 1 << 31, 0x7fffffff, 0xedb88320, 0xfffffffe, 0xffffffff} {
		for n := range 10 {
			b := text(n, int(sum%1000))
			if s := crc.More(sum, b); s != crc32.Update(sum, crc32.IEEETable, b) {
				t.Errorf("%08x, %d bytes: %08x", sum, n, s)
			}
		}
	}
}

func TestP2_1ArgumentsStayAsTheyAre(t *testing.T) {
	whole := text(64, 5)
	parts := [][]byte{whole[:7], nil, whole[7:20], whole[40:50]}
	before, kept := slices.Clone(whole), slices.Clone(parts)
	crc.Sum(parts...)
	crc.More(1, whole[3:9])
	if !bytes.Equal(whole, before) {
		t.Error("the bytes were changed")
	}
	for i := range parts {
		if !bytes.Equal(parts[i], kept[i]) {
			t.Error("the list of parts was changed", i)
		}
	}
}

func TestP2_2Seal(t *testing.T) {
	for i, c := range []struct{ b, want []byte }{
		{nil, []byte{0, 0, 0, 0}},
		{[]byte{}, []byte{0, 0, 0, 0}},
		{[]byte("123456789"), []byte("123456789\x26\x39\xf4\xcb")},
		{[]byte{0}, []byte{0, 0x8d, 0xef, 0x02, 0xd2}},
		{[]byte("IEND"), []byte("IEND\x82\x60\x42\xae")},
	} {
		if got := crc.Seal(c.b); !bytes.Equal(got, c.want) {
			t.Error(i, got)
		}
	}
	for i, b := range texts() {
		if got := crc.Seal(b); !bytes.Equal(got, behind(b, expected(b))) {
			t.Error(i, len(b), "bytes, sealed otherwise")
		}
	}
}

func TestP2_2CheckOfTooFewBytes(t *testing.T) {
	for _, b := range [][]byte{nil, {}, {0}, {0, 0}, {0, 0, 0}, {255, 255, 255}, make([]byte, 3, 20)} {
		if got, e := crc.Check(b); len(got) != 0 || e != api.ErrShort {
			t.Error(b, got, e)
		}
	}
}

func TestP2_2CheckOfFourBytes(t *testing.T) {
	if got, e := crc.Check([]byte{0, 0, 0, 0}); len(got) != 0 || e != api.OK {
		t.Error(got, e)
	}
	for _, b := range [][]byte{{1, 0, 0, 0}, {0, 1, 0, 0}, {0, 0, 1, 0}, {0, 0, 0, 1}, {255, 255, 255, 255}} {
		if got, e := crc.Check(b); len(got) != 0 || e != api.ErrSum {
			t.Error(b, got, e)
		}
	}
}

func TestP2_2CheckOfBytesThatHaveTheirSum(t *testing.T) {
	for i, b := range texts() {
		if got, e := crc.Check(behind(b, crc32.ChecksumIEEE(b))); !bytes.Equal(got, b) || e != api.OK {
			t.Error(i, len(b), "bytes:", e)
		}
	}
}

func TestP2_2CheckOfBytesThatHaveNotTheirSum(t *testing.T) {
	refused := func(what string, b []byte) {
		t.Helper()
		if got, e := crc.Check(b); len(got) != 0 || e != api.ErrSum {
			t.Error(what, got, e)
		}
	}
	for n := range 40 {
		b := text(n, n)
		sum := expected(b)
		for i := range 32 {
			refused("a bit of the sum is another", behind(b, sum^1<<i))
		}
		refused("the sum is not inverted", behind(b, ^sum))
		if other := bits.ReverseBytes32(sum); other != sum {
			refused("the sum is big-endian", behind(b, other))
		}
		whole := behind(b, sum)
		for i := range 8 * n {
			whole[i/8] ^= 1 << (i % 8)
			refused("a bit is another", whole)
			whole[i/8] ^= 1 << (i % 8)
		}
		for _, x := range []byte{0, 1, 255} {
			refused("one byte more", append(slices.Clone(whole), x))
		}
	}
	refused("one byte less", []byte("123456789\x26\x39\xf4"))
	refused("no first byte", []byte("23456789\x26\x39\xf4\xcb"))
}

// overwrite writes over some bytes and what spare capacity they have.
func overwrite(b []byte) {
	b = b[:cap(b)]
	for i := range b {
		b[i] = 0xaa
	}
}

func TestP2_2ResultsAreNewMemory(t *testing.T) {
	for _, n := range []int{0, 1, 3, 4, 5, 60, 128} {
		whole := append(text(n, 9), text(20, 10)...)
		before := slices.Clone(whole)
		sealed := crc.Seal(whole[:n])
		again := crc.Seal(whole[:n])
		overwrite(sealed)
		if !bytes.Equal(whole, before) {
			t.Error(n, "Seal: the argument was changed")
		}
		if !bytes.Equal(again, behind(before[:n], expected(before[:n]))) {
			t.Error(n, "Seal: two results share memory")
		}

		long := append(slices.Clone(again), text(20, 11)...)
		before = slices.Clone(long)
		first, e := crc.Check(long[:n+4])
		second, f := crc.Check(long[:n+4])
		if e != api.OK || f != api.OK {
			t.Fatal(n, e, f)
		}
		overwrite(first)
		if !bytes.Equal(long, before) {
			t.Error(n, "Check: the argument was changed")
		}
		if !bytes.Equal(second, before[:n]) {
			t.Error(n, "Check: two results share memory")
		}
		overwrite(long)
		if !bytes.Equal(second, before[:n]) {
			t.Error(n, "Check: the result is kept in the argument")
		}
	}
}

func TestP2_2SealAndCheckWithinLongerBytes(t *testing.T) {
	// What lies in the spare capacity is neither read nor written.
	whole := crc.Seal([]byte("123456789"))
	for n := range len(whole) {
		before := slices.Clone(whole)
		crc.Seal(whole[:n])
		if _, e := crc.Check(whole[:n]); e == api.OK {
			t.Error(n, "bytes were accepted")
		}
		if !bytes.Equal(whole, before) {
			t.Error(n, whole)
		}
	}
}

// differing is bytes that differ by a pattern of 32 bits, from a bit on. The
// bits of a byte count from the lowest, as the register takes them.
func differing(b []byte, from int, pattern uint32) []byte {
	out := slices.Clone(b)
	for i := range 32 {
		if pattern>>i&1 == 1 {
			out[(from+i)/8] ^= 1 << ((from + i) % 8)
		}
	}
	return out
}

// independent tells whether no selection of some numbers, but the empty one,
// gives 0 by exclusive or.
func independent(l []uint32) bool {
	var tops [32]uint32
	for _, x := range l {
		for x != 0 && tops[31-bits.LeadingZeros32(x)] != 0 {
			x ^= tops[31-bits.LeadingZeros32(x)]
		}
		if x == 0 {
			return false
		}
		tops[31-bits.LeadingZeros32(x)] = x
	}
	return true
}

func TestP2_3TextsThatDifferWithin32Bits(t *testing.T) {
	patterns := []uint32{1, 1 << 31, 1<<31 | 1, 3, 0xff, 0xffff, 0xffffffff, 0xedb88320, 0xdb710641, 0x04c11db7, 0x82608edb}
	for i := range 200 {
		patterns = append(patterns, expected(text(3, i))|1<<(i%32))
	}
	for _, n := range []int{4, 5, 8, 13, 128} {
		b := text(n, n)
		sum := crc.Sum(b)
		for from := range 8*n - 31 {
			for _, p := range patterns {
				if crc.Sum(differing(b, from, p)) == sum {
					t.Errorf("%d bytes, %08x from bit %d on: the same sum", n, p, from)
				}
			}
		}
	}
}

func TestP2_3AllDifferencesWithin32Bits(t *testing.T) {
	// How a sum changes by several bits is the exclusive or of how it changes
	// by each (held to first). So no pattern of 32 bits leaves it unchanged if
	// the changes by the single bits are independent.
	for _, n := range []int{4, 5, 7, 12, 128} {
		b := text(n, 2*n)
		sum := crc.Sum(b)
		for from := range 8*n - 31 {
			var changes []uint32
			all := uint32(0)
			p := expected([]byte{byte(from), byte(from >> 8), byte(n)})
			for i := range 32 {
				change := crc.Sum(differing(b, from, 1<<i)) ^ sum
				changes = append(changes, change)
				if p>>i&1 == 1 {
					all ^= change
				}
			}
			if crc.Sum(differing(b, from, p))^sum != all {
				t.Errorf("%d bytes, %08x from bit %d on: not the changes of its bits", n, p, from)
			}
			if !independent(changes) {
				t.Errorf("%d bytes, from bit %d on: some difference leaves the sum", n, from)
			}
		}
	}
}

func TestP2_3ShortTexts(t *testing.T) {
	// All bits of at most 4 bytes lie within 32: no two texts have one sum.
	for n := range 3 {
		seen := map[uint32]int{}
		for x := range 1 << (8 * n) {
			s := crc.Sum([]byte{byte(x), byte(x >> 8)}[:n])
			if other, ok := seen[s]; ok {
				t.Errorf("%d bytes: %x and %x have the sum %08x", n, other, x, s)
			}
			seen[s] = x
		}
	}
	for n := 1; n <= 4; n++ {
		b := text(n, n)
		var changes []uint32
		for i := range 8 * n {
			other := slices.Clone(b)
			other[i/8] ^= 1 << (i % 8)
			changes = append(changes, crc.Sum(other)^crc.Sum(b))
		}
		if !independent(changes) {
			t.Errorf("%d bytes: some difference leaves the sum", n)
		}
	}
}

func TestP2_4CheckAcceptsWhatSealReturns(t *testing.T) {
	for i, b := range texts() {
		sealed := crc.Seal(b)
		if got, e := crc.Check(sealed); !bytes.Equal(got, b) || e != api.OK {
			t.Error(i, len(b), "bytes:", e)
		}
		twice, e := crc.Check(crc.Seal(sealed))
		if !bytes.Equal(twice, sealed) || e != api.OK {
			t.Error(i, len(b), "bytes, sealed twice:", e)
		}
	}
	for x := range 1 << 16 {
		b := []byte{byte(x), byte(x >> 8)}
		if got, e := crc.Check(crc.Seal(b)); !bytes.Equal(got, b) || e != api.OK {
			t.Error(b, got, e)
		}
	}
}
