package head_test

import (
	"encoding/binary"
	"encoding/hex"
	"hash/crc32"
	"math"
	"strings"
	"testing"

	"clerestory/api"
	"clerestory/head"
)

// dice is a source of numbers that are the same in every run.
type dice uint64

// below is the next number, less than n.
func (d *dice) below(n int) int {
	*d = *d*6364136223846793005 + 1442695040888963407
	return int(uint64(*d)>>33) % n
}

// one is any of some numbers.
func (d *dice) one(l ...int) int { return l[d.below(len(l))] }

// raw is bytes that are written as hexadecimal digits.
func raw(texts ...string) []byte {
	b, err := hex.DecodeString(strings.ReplaceAll(strings.Join(texts, ""), " ", ""))
	if err != nil {
		panic(err)
	}
	return b
}

// both runs a test for a TIFF and for a BigTIFF.
func both(t *testing.T, test func(t *testing.T, big bool)) {
	t.Helper()
	t.Run("TIFF", func(t *testing.T) { test(t, false) })
	t.Run("BigTIFF", func(t *testing.T) { test(t, true) })
}

// heads is heads of one kind, of Gen, First and End in turn.
func heads(big bool, numbers ...int) (l []api.Head) {
	for i := 0; i < len(numbers); i += 3 {
		l = append(l, api.Head{Big: big, Gen: numbers[i], First: numbers[i+1], End: numbers[i+2]})
	}
	return l
}

// mayBe tells whether a head is valid: sector by sector, as the chapter counts
// them.
func mayBe(h api.Head) bool {
	if h.Gen <= 0 || h.Gen > 1<<40 {
		return false
	}
	for sectors := 1; sectors <= 4096; sectors++ {
		if h.End != sectors*128 {
			continue
		}
		for at := range sectors {
			// No directory lies at 0: there, it says that there is none.
			if h.First == at*128 {
				return true
			}
		}
	}
	return false
}

// sum makes a sector's last four bytes the sum of those ahead of them.
func sum(b []byte) []byte {
	binary.LittleEndian.PutUint32(b[124:], crc32.ChecksumIEEE(b[:124]))
	return b
}

// sectorOf is what a head's numbers are as a sector, whether it is valid or
// not.
func sectorOf(big bool, gen, first, end uint64) []byte {
	b := make([]byte, 128)
	b[0], b[1], b[2] = 'I', 'I', 42
	if big {
		b[2], b[4] = 43, 8
		binary.LittleEndian.PutUint64(b[8:], first)
	} else {
		binary.LittleEndian.PutUint32(b[4:], uint32(first))
	}
	copy(b[64:], "\x43\x4c\x52\x59")
	binary.LittleEndian.PutUint64(b[68:], gen)
	binary.LittleEndian.PutUint64(b[76:], end)
	return sum(b)
}

// modelPut is a head's sector.
func modelPut(h api.Head) ([]byte, api.Errno) {
	if !mayBe(h) {
		return nil, api.ErrArg
	}
	return sectorOf(h.Big, uint64(h.Gen), uint64(h.First), uint64(h.End)), api.OK
}

// modelGet is a sector's head: byte by byte, each in its place.
func modelGet(b []byte) (api.Head, api.Errno) {
	if len(b) != 128 {
		return api.Head{}, api.ErrArg
	}
	if binary.LittleEndian.Uint32(b[124:]) != crc32.ChecksumIEEE(b[:124]) {
		return api.Head{}, api.ErrSum
	}
	var first uint64
	zeros := b[8:64]
	big := false
	switch string(b[:4]) {
	case "II*\x00":
		first = uint64(binary.LittleEndian.Uint32(b[4:]))
	case "II+\x00":
		big = true
		first = binary.LittleEndian.Uint64(b[8:])
		zeros = b[16:64]
		if string(b[4:8]) != "\x08\x00\x00\x00" {
			return api.Head{}, api.ErrForm
		}
	default:
		return api.Head{}, api.ErrForm
	}
	for _, part := range [][]byte{zeros, b[84:124]} {
		for _, x := range part {
			if x != 0 {
				return api.Head{}, api.ErrForm
			}
		}
	}
	if string(b[64:68]) != "CLRY" {
		return api.Head{}, api.ErrForm
	}
	gen, end := binary.LittleEndian.Uint64(b[68:]), binary.LittleEndian.Uint64(b[76:])
	if first > math.MaxInt || gen > math.MaxInt || end > math.MaxInt {
		return api.Head{}, api.ErrForm
	}
	h := api.Head{Big: big, Gen: int(gen), First: int(first), End: int(end)}
	if !mayBe(h) {
		return api.Head{}, api.ErrForm
	}
	return h, api.OK
}

// checkGet asks for the head of some bytes, and holds the answer against the
// model, too.
func checkGet(t *testing.T, b []byte, want api.Head, why api.Errno) {
	t.Helper()
	if h, e := head.Get(b); h != want || e != why {
		t.Errorf("Get(% x) is %+v, %d; it must be %+v, %d", b, h, e, want, why)
	}
	if h, e := modelGet(b); h != want || e != why {
		t.Errorf("the model of % x is %+v, %d; it must be %+v, %d", b, h, e, want, why)
	}
}

// checkForm holds that bytes with a right sum are no head's sector.
func checkForm(t *testing.T, b []byte) {
	t.Helper()
	checkGet(t, b, api.Head{}, api.ErrForm)
}

// draw is a valid head.
func draw(d *dice) api.Head {
	sectors := d.one(1, 2, 3, 4096, 4095, 1+d.below(4096), 1+d.below(20))
	return api.Head{
		Big:   d.below(2) == 1,
		Gen:   d.one(1, 2, 255, 256, 1<<40, 1<<40-1, 1<<32, 1+d.below(1<<30), 1<<40-d.below(1<<20), 1<<d.below(41)),
		First: 128 * d.one(0, 1%sectors, sectors-1, d.below(sectors)),
		End:   128 * sectors,
	}
}

// drawAny is a head that is valid or not.
func drawAny(d *dice) api.Head {
	h := draw(d)
	odd := func(n int) int {
		return d.one(n, n, n, n+1, n-1, -n, n+128, n-128, 0, -1, 1, 64, 127, 1<<40+1, 1<<19+128, 1<<62, math.MaxInt, math.MinInt, n+1<<32)
	}
	h.Gen, h.First, h.End = odd(h.Gen), odd(h.First), odd(h.End)
	return h
}
