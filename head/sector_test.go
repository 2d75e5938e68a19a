package head_test

import (
	"bytes"
	"encoding/binary"
	"hash/crc32"
	"math"
	"slices"
	"testing"

	"clerestory/api"
	"clerestory/head"
)

// some is the sector of a head all of whose numbers are there.
func some(big bool) []byte { return sectorOf(big, 0x0123456789, 0x12300, 0x45600) }

// with is a sector with some bytes in another's place, and the sum made right.
func with(b []byte, at int, by ...byte) []byte {
	b = slices.Clone(b)
	copy(b[at:], by)
	return sum(b)
}

func TestP18_1GetLength(t *testing.T) {
	both(t, func(t *testing.T, big bool) {
		b := some(big)
		checkGet(t, nil, api.Head{}, api.ErrArg)
		checkGet(t, []byte{}, api.Head{}, api.ErrArg)
		for n := range 128 {
			checkGet(t, b[:n], api.Head{}, api.ErrArg)
			checkGet(t, b[128-n:], api.Head{}, api.ErrArg)
		}
		for _, n := range []int{129, 130, 132, 192, 256, 1 << 16} {
			checkGet(t, append(slices.Clone(b), make([]byte, n-128)...), api.Head{}, api.ErrArg)
			checkGet(t, bytes.Repeat(b, n/128+1)[:n], api.Head{}, api.ErrArg)
		}
		// The lengths of 127 and 129 with a sum of their own at the end.
		for _, n := range []int{4, 8, 127, 129, 256} {
			c := make([]byte, n)
			copy(c, b)
			binary.LittleEndian.PutUint32(c[n-4:], crc32.ChecksumIEEE(c[:n-4]))
			checkGet(t, c, api.Head{}, api.ErrArg)
		}
		checkGet(t, b, api.Head{Big: big, Gen: 0x0123456789, First: 0x12300, End: 0x45600}, api.OK)
	})
}

// TestP18_1GetZeros asks of sectors of nothing else: the sum of zeros is not 0.
func TestP18_1GetZeros(t *testing.T) {
	checkGet(t, make([]byte, 128), api.Head{}, api.ErrSum)
	checkGet(t, bytes.Repeat([]byte{0xff}, 128), api.Head{}, api.ErrSum)
	checkForm(t, sum(make([]byte, 128)))
	checkForm(t, sum(bytes.Repeat([]byte{0xff}, 128)))
}

// TestP18_1GetChanged changes each byte to each other one: without the sum, and
// with the sum made right behind it.
func TestP18_1GetChanged(t *testing.T) {
	both(t, func(t *testing.T, big bool) {
		taken := 0
		for _, b := range [][]byte{some(big), sectorOf(big, 1, 0, 128), sectorOf(big, 1<<40, 1<<19-128, 1<<19)} {
			for at := range b {
				for by := 1; by < 256; by++ {
					c := slices.Clone(b)
					c[at] ^= byte(by)
					if h, e := head.Get(c); e != api.ErrSum || h != (api.Head{}) {
						t.Fatalf("Get with byte %d changed by %d is %+v, %d; it must be ErrSum", at, by, h, e)
					}
					if at >= 124 {
						continue
					}
					want, why := modelGet(sum(c))
					if h, e := head.Get(c); e != why || h != want {
						t.Fatalf("Get with byte %d changed by %d, and its sum, is %+v, %d; it must be %+v, %d", at, by, h, e, want, why)
					}
					if why == api.OK {
						taken++
					}
				}
			}
		}
		if taken < 1000 {
			t.Error("few changes lead to another head:", taken)
		}
	})
}

// TestP18_1GetOtherByte holds, without the model, which bytes may be others:
// those of the numbers.
func TestP18_1GetOtherByte(t *testing.T) {
	both(t, func(t *testing.T, big bool) {
		b := some(big)
		for at := range 124 {
			isFirst := !big && at >= 4 && at < 8 || big && at >= 8 && at < 16
			isNumber := isFirst || at >= 68 && at < 84
			for _, by := range []byte{1, 2, 64, 128, 255} {
				if _, e := head.Get(with(b, at, b[at]^by)); e != api.ErrForm && !isNumber {
					t.Errorf("Get with byte %d changed by %d is %d; it must be ErrForm", at, by, e)
				}
			}
		}
	})
}

func TestP18_1GetHeader(t *testing.T) {
	plain, big := some(false), some(true)
	// The other format's header, in full or in part.
	checkForm(t, with(plain, 2, 43))
	checkForm(t, with(big, 2, 42))
	checkGet(t, with(plain, 0, big[:8]...), api.Head{Big: true, Gen: 0x0123456789, First: 0, End: 0x45600}, api.OK)
	checkForm(t, with(big, 0, plain[:4]...))
	checkForm(t, with(big, 0, plain[:8]...))
	// With what belongs to it, these are the other one's sectors.
	checkGet(t, with(plain, 0, big[:16]...), api.Head{Big: true, Gen: 0x0123456789, First: 0x12300, End: 0x45600}, api.OK)
	checkGet(t, with(big, 0, plain[:16]...), api.Head{Gen: 0x0123456789, First: 0x12300, End: 0x45600}, api.OK)
	checkGet(t, with(plain, 0, big[:12]...), api.Head{Big: true, Gen: 0x0123456789, First: 0x12300, End: 0x45600}, api.OK)
	for _, b := range [][]byte{plain, big} {
		for _, start := range []string{"4d4d", "4d4d002a", "4d4d002b0008", "0000", "00000000", "49492c00", "49492a01", "49492b01", "4949002a", "4949002b", "4a49", "494a", "ffd8ffe0"} {
			checkForm(t, with(b, 0, raw(start)...))
		}
	}
	for _, sizes := range []string{"00000000", "04000000", "07000000", "09000000", "08010000", "08000100", "08000001", "10000000", "80000000"} {
		checkForm(t, with(big, 4, raw(sizes)...))
	}
	checkForm(t, with(plain, 0, make([]byte, 8)...))
	checkForm(t, with(big, 0, make([]byte, 16)...))
}

func TestP18_1GetZeroBytes(t *testing.T) {
	both(t, func(t *testing.T, big bool) {
		from := 8
		if big {
			from = 16
		}
		for _, b := range [][]byte{some(big), sectorOf(big, 1, 0, 128)} {
			for _, part := range [][2]int{{from, 64}, {84, 124}} {
				for at := part[0]; at < part[1]; at++ {
					for _, x := range []byte{1, 8, 128, 255} {
						checkForm(t, with(b, at, x))
					}
				}
			}
		}
	})
}

func TestP18_1GetMark(t *testing.T) {
	both(t, func(t *testing.T, big bool) {
		for _, mark := range []string{"00000000", "59524c43", "434c5258", "434c525a", "434c5359", "424c5259", "434d5259", "636c7279", "4c525900", "00434c52", "ffffffff"} {
			checkForm(t, with(some(big), 64, raw(mark)...))
			checkForm(t, with(sectorOf(big, 1, 0, 128), 64, raw(mark)...))
		}
	})
}

func TestP18_1GetNumbers(t *testing.T) {
	both(t, func(t *testing.T, big bool) {
		for _, h := range append(refused(big), api.Head{Big: big}) {
			// In a TIFF there is only room for a First of four bytes.
			if !big && (h.First < 0 || h.First >= 1<<32) {
				continue
			}
			checkForm(t, sectorOf(big, uint64(h.Gen), uint64(h.First), uint64(h.End)))
		}
		for _, h := range valid(big) {
			checkGet(t, sectorOf(big, uint64(h.Gen), uint64(h.First), uint64(h.End)), h, api.OK)
		}
		for _, n := range []uint64{1<<40 + 1, 1<<40 + 128, 1 << 41, 1 << 52, 1 << 53, 1<<53 + 1, 1<<53 + 128, 1 << 62, math.MaxInt, math.MaxInt - 127, 1 << 63, 1<<63 + 1, 1<<63 + 128, 1<<64 - 128, 1<<64 - 1} {
			checkForm(t, sectorOf(big, n, 0, 256))
			checkForm(t, sectorOf(big, n, 128, 256))
			checkForm(t, sectorOf(big, 1, 0, n))
			checkForm(t, sectorOf(big, 1, 128, n))
			checkForm(t, sectorOf(big, n, 0, n))
			if big {
				checkForm(t, sectorOf(big, 1, n, 256))
				checkForm(t, sectorOf(big, 1, n, n))
			}
		}
	})
}

func TestP18_1GetFirst(t *testing.T) {
	both(t, func(t *testing.T, big bool) {
		for _, first := range []uint64{1, 2, 3, 4, 6, 7, 8, 9, 10, 64, 126, 127, 129, 130, 192, 255, 383, 512, 513, 514, 640, 1 << 19, 1<<19 + 128, 1<<32 - 128, 1<<32 - 1} {
			checkForm(t, sectorOf(big, 5, first, 512))
		}
		for _, first := range []uint64{0, 128, 256, 384} {
			checkGet(t, sectorOf(big, 5, first, 512), api.Head{Big: big, Gen: 5, First: int(first), End: 512}, api.OK)
		}
		if big {
			for _, first := range []uint64{1 << 32, 1<<32 + 128, 1<<40 - 128, 1 << 40, 1<<40 + 128} {
				checkForm(t, sectorOf(big, 5, first, 512))
			}
		}
	})
}

// TestP18_1GetOrder holds which error is told where more than one thing is
// wrong.
func TestP18_1GetOrder(t *testing.T) {
	both(t, func(t *testing.T, big bool) {
		bad := sectorOf(big, 0, 1, 1)
		checkForm(t, bad)
		wrong := slices.Clone(bad)
		wrong[124] ^= 1
		checkGet(t, wrong, api.Head{}, api.ErrSum)
		checkGet(t, wrong[:127], api.Head{}, api.ErrArg)
		checkGet(t, append(wrong, 0), api.Head{}, api.ErrArg)
		checkGet(t, wrong[:3], api.Head{}, api.ErrArg)
		for at := range 128 {
			c := slices.Clone(bad)
			c[at] ^= 0x80
			checkGet(t, c, api.Head{}, api.ErrSum)
		}
	})
}

// TestP18_1GetAtRandom asks of sectors whose numbers and bytes are drawn.
func TestP18_1GetAtRandom(t *testing.T) {
	d, answers := dice(183), map[api.Errno]int{}
	for range 30000 {
		h := drawAny(&d)
		b := sectorOf(h.Big, uint64(h.Gen), uint64(h.First), uint64(h.End))
		for range d.one(0, 0, 0, 1, 2, 5) {
			b[d.below(128)] = byte(d.one(0, 0, 1, 8, 42, 43, d.below(256)))
		}
		if d.below(5) > 0 {
			sum(b)
		}
		if d.below(20) == 0 {
			b = b[:d.below(129)]
		}
		want, why := modelGet(b)
		if h, e := head.Get(b); h != want || e != why {
			t.Fatalf("Get(% x) is %+v, %d; it must be %+v, %d", b, h, e, want, why)
		}
		answers[why]++
	}
	for _, e := range []api.Errno{api.OK, api.ErrArg, api.ErrSum, api.ErrForm} {
		if answers[e] < 300 {
			t.Error("few answers of", e, answers)
		}
	}
}

func TestP18_3PutGet(t *testing.T) {
	d := dice(185)
	for range 5000 {
		h := draw(&d)
		want, _ := modelPut(h)
		b, e := head.Put(h)
		if e != api.OK || !bytes.Equal(b, want) {
			t.Fatalf("Put(%+v) is % x, %d; it must be % x", h, b, e, want)
		}
		got, e := head.Get(b)
		if e != api.OK || got != h {
			t.Fatalf("Get of what %+v was put as is %+v, %d", h, got, e)
		}
		again, e := head.Put(got)
		if e != api.OK || !bytes.Equal(again, b) {
			t.Fatalf("Put of what was got is % x, %d; it was % x", again, e, b)
		}
	}
}

// TestP18_3OneByte changes one byte of what was put, whichever it is.
func TestP18_3OneByte(t *testing.T) {
	d := dice(186)
	for range 40 {
		h := draw(&d)
		b, _ := head.Put(h)
		for at := range b {
			for _, by := range []int{1, 2, 4, 8, 16, 32, 64, 128, 255, 1 + d.below(255)} {
				b[at] ^= byte(by)
				if got, e := head.Get(b); e != api.ErrSum || got != (api.Head{}) {
					t.Fatalf("Get of %+v with byte %d changed by %d is %+v, %d", h, at, by, got, e)
				}
				b[at] ^= byte(by)
			}
		}
		if got, e := head.Get(b); e != api.OK || got != h {
			t.Fatalf("Get with all bytes back is %+v, %d", got, e)
		}
	}
}

// TestP18_1Memory holds that Get leaves its bytes, and what is behind them, and
// that what Put tells may be written over.
func TestP18_1Memory(t *testing.T) {
	both(t, func(t *testing.T, big bool) {
		for _, b := range [][]byte{some(big), with(some(big), 64, 0), sectorOf(big, 0, 0, 0), make([]byte, 128)} {
			long := append(slices.Clone(b), bytes.Repeat([]byte{0x77}, 256)...)
			before := slices.Clone(long)
			h, e := head.Get(long[:128])
			if want, why := modelGet(b); h != want || e != why {
				t.Errorf("Get is %+v, %d; it must be %+v, %d", h, e, want, why)
			}
			if !bytes.Equal(long, before) {
				t.Error("Get changed its bytes, or those behind them")
			}
		}
		h := api.Head{Big: big, Gen: 7, First: 128, End: 512}
		want, _ := modelPut(h)
		a, _ := head.Put(h)
		b, _ := head.Put(h)
		a = a[:cap(a)]
		for i := range a {
			a[i] = 0x55
		}
		if !bytes.Equal(b, want) {
			t.Error("two sectors share memory")
		}
		if c, e := head.Put(h); e != api.OK || !bytes.Equal(c, want) {
			t.Errorf("Put behind it is % x, %d", c, e)
		}
		if got, e := head.Get(want); e != api.OK || got != h {
			t.Errorf("Get behind it is %+v, %d", got, e)
		}
	})
}
