package ifd_test

import (
	"bytes"
	"math"
	"slices"
	"testing"

	"clerestory/api"
	"clerestory/ifd"
)

// checkRight asks whether a directory is valid, and holds Size and Put to it.
func checkRight(t *testing.T, name string, l []api.Field, big, right bool) {
	t.Helper()
	if ifd.Right(l, big) != right {
		t.Errorf("%s: Right is %v", name, !right)
	}
	e := pick(right, api.ErrArg, api.OK)
	if n, got := ifd.Size(l, big); got != e || (n > 0) != right {
		t.Errorf("%s: Size is %d, %d; the error must be %d", name, n, got, e)
	}
	if b, got := ifd.Put(l, big, 8, 0); got != e || (len(b) > 0) != right {
		t.Errorf("%s: Put is %x, %d; the error must be %d", name, b, got, e)
	}
}

// checkPut puts a directory, and holds its bytes and its size to what they must
// be.
func checkPut(t *testing.T, l []api.Field, big bool, at, next int, want []byte) {
	t.Helper()
	b, e := ifd.Put(l, big, at, next)
	if e != api.OK || !bytes.Equal(b, want) {
		t.Errorf("Put of %s at %d, %d is\n%x, %d; it must be\n%x", told(l), at, next, b, e, want)
	}
	n, e := ifd.Size(l, big)
	if e != api.OK || n != len(want) {
		t.Errorf("Size of %s is %d, %d; it must be %d", told(l), n, e, len(want))
	}
}

// checkPutError puts a directory that must be refused.
func checkPutError(t *testing.T, l []api.Field, big bool, at, next int, want api.Errno) {
	t.Helper()
	b, e := ifd.Put(l, big, at, next)
	if e != want || len(b) != 0 {
		t.Errorf("Put of %s at %d, %d is %x, %d; it must be %d", told(l), at, next, b, e, want)
	}
}

// many is n fields of one value each.
func many(n int) (l []api.Field) {
	for i := range n {
		l = append(l, field(3*i, api.TypeByte, i))
	}
	return l
}

func TestExample1(t *testing.T) {
	l := []api.Field{field(256, api.TypeShort, 7)}
	want := raw("01 00 00 01 03 00 01 00 00 00 07 00 00 00 00 00 00 00")
	if n, e := ifd.Size(l, false); n != 18 || e != api.OK {
		t.Errorf("Size is %d, %d", n, e)
	}
	checkPut(t, l, false, 8, 0, want)
	checkGet(t, "example", behind8(want), false, 8, l, 0, api.OK)
}

func TestP16_1RightFields(t *testing.T) {
	both(t, func(t *testing.T, big bool) {
		checkRight(t, "nil", nil, big, false)
		checkRight(t, "none", []api.Field{}, big, false)
		for n := 1; n <= 32; n++ {
			checkRight(t, "some fields", many(n), big, true)
		}
		checkRight(t, "33 fields", many(33), big, false)
		checkRight(t, "200 fields", many(200), big, false)
	})
}

func TestP16_1RightTags(t *testing.T) {
	both(t, func(t *testing.T, big bool) {
		for _, c := range []struct {
			right bool
			tags  []int
		}{
			{true, []int{0}}, {true, []int{65535}}, {true, []int{0, 65535}}, {true, []int{0, 1, 2}}, {true, []int{7, 9, 65534, 65535}},
			{false, []int{-1}}, {false, []int{65536}}, {false, []int{-1, 0}}, {false, []int{-2, -1}}, {false, []int{65535, 65536}},
			{false, []int{math.MinInt}}, {false, []int{math.MaxInt}}, {false, []int{65536 + 256}}, {false, []int{1<<32 + 5}},
			{false, []int{5, 5}}, {false, []int{0, 0}}, {false, []int{65535, 65535}}, {false, []int{6, 5}}, {false, []int{1, 0}},
			{false, []int{1, 2, 2}}, {false, []int{1, 2, 1}}, {false, []int{2, 1, 3}}, {false, []int{1, 3, 2, 4}}, {false, []int{1, 1, 2}},
		} {
			var l []api.Field
			for _, tag := range c.tags {
				l = append(l, field(tag, api.TypeShort, 1))
			}
			checkRight(t, told(l), l, big, c.right)
		}
	})
}

func TestP16_1RightTypes(t *testing.T) {
	both(t, func(t *testing.T, big bool) {
		for kind := -3; kind < 300; kind++ {
			right := kind == 1 || kind == 2 || kind == 3 || kind == 4 || kind == 7 || kind == 16 && big
			checkRight(t, "a type", []api.Field{field(9, kind, 1)}, big, right)
			checkRight(t, "a type in the middle", []api.Field{field(8, 1, 1), field(9, kind, 1), field(10, 1, 1)}, big, right)
		}
		for _, kind := range []int{math.MinInt, math.MaxInt, 1 << 16, 1<<16 + 1, 1<<32 + 3, -16} {
			checkRight(t, "a type far off", []api.Field{field(9, kind, 1)}, big, false)
		}
	})
}

func TestP16_1RightValues(t *testing.T) {
	both(t, func(t *testing.T, big bool) {
		for _, kind := range kinds(big) {
			one := func(name string, right bool, values ...int) {
				t.Helper()
				checkRight(t, name, []api.Field{field(9, kind, values...)}, big, right)
			}
			one("no value", false)
			one("one value", true, upward(0, 1)...)
			one("2048 values", true, upward(0, 2048)...)
			one("2049 values", false, upward(0, 2049)...)
			one("5000 values", false, upward(0, 5000)...)
			one("least", true, 0)
			one("greatest", true, most(kind))
			one("one less than 0", false, -1)
			one("one more than the greatest", false, most(kind)+1)
			one("the least number", false, math.MinInt)
			one("the greatest number", false, math.MaxInt)
			one("both bounds", true, 0, most(kind), 0, most(kind))
			one("the last one too great", false, 1, 2, most(kind)+1)
			one("one in the middle less than 0", false, 1, -1, 2)
			last := upward(0, 2048)
			last[2047] = -1
			one("the last of 2048", false, last...)
		}
		checkRight(t, "a second field without values", []api.Field{field(1, 1, 1), field(2, 1)}, big, false)
		checkRight(t, "a first field without values", []api.Field{field(1, 1), field(2, 1, 1)}, big, false)
		checkRight(t, "a last value that is wrong", append(many(31), field(999, 2, 256)), big, false)
	})
}

func TestP16_1RightOfAny(t *testing.T) {
	both(t, func(t *testing.T, big bool) {
		d := dice(161)
		rights := 0
		for range 3000 {
			l := draw(&d, big)
			f := &l[d.below(len(l))]
			switch d.below(8) {
			case 0:
				f.Tag = d.one(-1, 0, 1, 65535, 65536, l[0].Tag, l[len(l)-1].Tag)
			case 1:
				f.Type = d.below(18)
			case 2:
				f.Values = f.Values[:d.below(2)]
			case 3:
				f.Values[d.below(len(f.Values))] = d.one(-1, 0, 255, 256, 65535, 65536, 1<<32-1, 1<<32, 1<<53, 1<<53+1)
			case 4:
				l = l[:d.below(2)]
			}
			right := modelRight(l, big)
			checkRight(t, told(l), l, big, right)
			if right {
				rights++
			}
		}
		if rights < 1000 || rights > 2700 {
			t.Errorf("%d of 3000 directories are valid", rights)
		}
	})
}

func TestP16_1PutByHand(t *testing.T) {
	l := []api.Field{
		field(0x100, api.TypeShort, 1, 2),
		field(0x101, api.TypeShort, 0x0403, 0xffff, 0),
		field(0x102, api.TypeAscii, 'h', 'e', 'l', 'l', 'o'),
		field(0x103, api.TypeAny, 0xa1, 0xa2, 0xa3),
		field(0x104, api.TypeLong, 0xfffffffe),
		field(0xffff, api.TypeByte, 9, 8, 7, 6, 5),
	}
	checkPut(t, l, false, 8, 0x12345678, raw("0600",
		"0001 0300 02000000 01000200",
		"0101 0300 03000000 56000000",
		"0201 0200 05000000 5c000000",
		"0301 0700 03000000 a1a2a300",
		"0401 0400 01000000 feffffff",
		"ffff 0100 05000000 62000000",
		"78563412",
		"0304ffff0000", "68656c6c6f 00", "0908070605 00"))
	checkPut(t, l[1:3], false, 0xa0b0c0d0, 8, raw("0200",
		"0101 0300 03000000 eec0b0a0",
		"0201 0200 05000000 f4c0b0a0",
		"08000000",
		"0304ffff0000", "68656c6c6f 00"))
}

func TestP16_1PutBigByHand(t *testing.T) {
	l := []api.Field{
		field(0x100, api.TypeShort, 1, 2, 3, 0xfffe),
		field(0x101, api.TypeShort, 0x0403, 0xffff, 0, 5, 6),
		field(0x102, api.TypeAscii, 'c', 'a', 't', ' ', 'm', 'i', 'l', 'k', 0),
		field(0x103, api.TypeAny, 0xa1, 0xa2, 0xa3),
		field(0x104, api.TypeLong, 0xfffffffe, 0x01020304),
		field(0x105, api.TypeLong8, 1<<53),
		field(0x106, api.TypeLong8, 0x1f223344556677, 1),
		field(0xffff, api.TypeByte, 9, 8, 7, 6, 5, 4, 3, 2, 1, 0, 255),
	}
	checkPut(t, l, true, 8, 0xfedcba9876, raw("08000000 00000000",
		"0001 0300 0400000000000000 0100 0200 0300 feff",
		"0101 0300 0500000000000000 b800000000000000",
		"0201 0200 0900000000000000 c200000000000000",
		"0301 0700 0300000000000000 a1a2a30000000000",
		"0401 0400 0200000000000000 feffffff 04030201",
		"0501 1000 0100000000000000 0000000000002000",
		"0601 1000 0200000000000000 cc00000000000000",
		"ffff 0100 0b00000000000000 dc00000000000000",
		"7698badcfe 000000",
		"0304ffff000005000600", "636174206d696c6b00 00", "7766554433221f00 0100000000000000", "0908070605040302 0100ff 00"))
	checkPut(t, l[2:3], true, 0xa0b0c0d0e0, 0, raw("01000000 00000000",
		"0201 0200 0900000000000000 04d1c0b0a0 000000",
		"00000000 00000000",
		"636174206d696c6b00 00"))
	checkPut(t, []api.Field{field(256, api.TypeShort, 7)}, true, 8, 0,
		raw("01000000 00000000", "0001 0300 0100000000000000 0700000000000000", "00000000 00000000"))
}

// TestP16_1Entries: values that fill an entry just lie in it, one more and they
// lie behind.
func TestP16_1Entries(t *testing.T) {
	both(t, func(t *testing.T, big bool) {
		fixed := pick(big, 18, 36)
		for _, kind := range kinds(big) {
			just := word(big) / width(kind)
			for n := 1; n <= just+40; n++ {
				l := []api.Field{field(5, kind, upward(1, n)...)}
				size := fixed
				if n > just {
					size += (n*width(kind) + 1) / 2 * 2
				}
				b, e := ifd.Put(l, big, 8, 0)
				if len(b) != size || e != api.OK {
					t.Fatalf("%d values of type %d have %d bytes, %d; it must be %d", n, kind, len(b), e, size)
				}
				in := b[fixed-2*word(big) : fixed-word(big)]
				if n <= just {
					want := make([]byte, word(big))
					for i := range n {
						want[i*width(kind)] = byte(i + 1)
					}
					if !bytes.Equal(in, want) {
						t.Errorf("%d values of type %d are %x in their entry", n, kind, in)
					}
				} else if !bytes.Equal(in, number(uint64(8+fixed), word(big))) {
					t.Errorf("%d values of type %d lie at %x", n, kind, in)
				}
				checkPut(t, l, big, 8, 0, modelPut(l, big, 8, 0))
			}
		}
	})
}

// TestP16_1OddLengths: a zero byte stands behind values of odd length, wherever
// they are.
func TestP16_1OddLengths(t *testing.T) {
	both(t, func(t *testing.T, big bool) {
		lengths := []int{1, 3, word(big), word(big) + 1, word(big) + 2, word(big) + 3, 2047, 2048}
		for _, a := range lengths {
			for _, b := range lengths {
				for _, c := range lengths {
					l := []api.Field{field(1, api.TypeByte, upward(1, a)...), field(2, api.TypeAscii, upward(3, b)...), field(4, api.TypeAny, upward(5, c)...)}
					checkPut(t, l, big, 8, 10, modelPut(l, big, 8, 10))
				}
			}
		}
	})
}

func TestP16_1PutGreat(t *testing.T) {
	both(t, func(t *testing.T, big bool) {
		for _, kind := range kinds(big) {
			l := []api.Field{field(7, kind, upward(0, 2048)...)}
			checkPut(t, l, big, 100, 0, modelPut(l, big, 100, 0))
		}
		var l []api.Field
		kind := pick(big, api.TypeLong, api.TypeLong8)
		for i := range 32 {
			l = append(l, field(2000*i, kind, slices.Repeat([]int{most(kind), i}, 1024)...))
		}
		checkPut(t, l, big, 1024, 2048, modelPut(l, big, 1024, 2048))
	})
}

func TestP16_1PutAny(t *testing.T) {
	both(t, func(t *testing.T, big bool) {
		d := dice(162)
		for range 2000 {
			l := draw(&d, big)
			at := 2 * (4 + d.one(d.below(100), d.below(1<<30), limit(big)/2-1<<20-d.below(100)))
			next := d.one(0, 8, 2*(4+d.below(1<<30)), limit(big)-2)
			checkPut(t, l, big, at, next, modelPut(l, big, at, next))
		}
	})
}

func TestP16_1PutAt(t *testing.T) {
	both(t, func(t *testing.T, big bool) {
		top := limit(big)
		l := []api.Field{field(256, api.TypeShort, 7)}
		long := []api.Field{field(9, api.TypeByte, upward(0, 9)...)}
		for _, next := range []int{0, 8, 10, 256, top - 2} {
			for _, at := range []int{8, 10, 256, top / 2} {
				checkPut(t, l, big, at, next, modelPut(l, big, at, next))
				checkPut(t, long, big, at, next, modelPut(long, big, at, next))
			}
			for _, at := range []int{0, 1, 2, 4, 6, 7, 9, 11, top - 1, top, top + 1, top + 8, -1, -2, -8, math.MinInt, math.MaxInt, math.MaxInt - 1} {
				checkPutError(t, l, big, at, next, api.ErrRange)
			}
			// The end must be less than the limit; the zero byte behind values of
			// odd length is one of the directory's bytes.
			checkPut(t, l, big, top-len(modelPut(l, big, 0, 0))-2, next, modelPut(l, big, top-len(modelPut(l, big, 0, 0))-2, next))
			checkPut(t, long, big, top-len(modelPut(long, big, 0, 0))-2, next, modelPut(long, big, top-len(modelPut(long, big, 0, 0))-2, next))
			for at := top - pick(big, 18, 36); at < top; at += 2 {
				checkPutError(t, l, big, at, next, api.ErrRange)
			}
			for at := top - pick(big, 18, 36) - 10; at < top; at += 2 {
				checkPutError(t, long, big, at, next, api.ErrRange)
			}
		}
		for _, next := range []int{1, 2, 4, 6, 7, 9, 11, 255, top - 1, top, top + 1, top + 2, -1, -2, -8, math.MinInt, math.MaxInt, math.MaxInt - 1} {
			checkPutError(t, l, big, 8, next, api.ErrRange)
			checkPutError(t, l, big, 7, next, api.ErrRange)
		}
	})
}

// TestP16_1Limits: what a TIFF has no place for has one in a BigTIFF.
func TestP16_1Limits(t *testing.T) {
	l := []api.Field{field(256, api.TypeShort, 7)}
	checkPut(t, l, true, 1<<32, 1<<32+2, modelPut(l, true, 1<<32, 1<<32+2))
	checkPut(t, l, true, 1<<32-36, 1<<32, modelPut(l, true, 1<<32-36, 1<<32))
	checkPut(t, l, false, 1<<32-20, 1<<32-2, modelPut(l, false, 1<<32-20, 1<<32-2))
	checkPutError(t, l, false, 1<<32-18, 0, api.ErrRange)
	checkPut(t, l, true, 1<<40-38, 1<<40-2, modelPut(l, true, 1<<40-38, 1<<40-2))
	checkPutError(t, l, true, 1<<40-36, 0, api.ErrRange)
	checkPutError(t, l, false, 8, 1<<32, api.ErrRange)
	checkPutError(t, l, true, 8, 1<<40, api.ErrRange)
}

// TestP16_1Order: a directory that is not valid comes ahead of its offsets.
func TestP16_1Order(t *testing.T) {
	both(t, func(t *testing.T, big bool) {
		for _, l := range [][]api.Field{nil, {field(-1, 1, 1)}, {field(1, 5, 1)}, {field(1, 1)}, {field(1, 1, 256)}, many(33)} {
			for _, at := range []int{0, 7, 8, limit(big) - 2, limit(big)} {
				for _, next := range []int{0, 2, 8, 9, limit(big)} {
					checkPutError(t, l, big, at, next, api.ErrArg)
				}
			}
		}
	})
}

func TestP16_1Header(t *testing.T) {
	for _, c := range []struct {
		big   bool
		first int
		want  []byte
	}{
		{false, 0, raw("49492a00 00000000")},
		{false, 8, raw("49492a00 08000000")},
		{false, 0x12345678, raw("49492a00 78563412")},
		{false, 1<<32 - 2, raw("49492a00 feffffff")},
		{true, 0, raw("49492b00 08000000 00000000 00000000")},
		{true, 8, raw("49492b00 08000000 08000000 00000000")},
		{true, 0x12345678, raw("49492b00 08000000 78563412 00000000")},
		{true, 1 << 32, raw("49492b00 08000000 00000000 01000000")},
		{true, 1<<40 - 2, raw("49492b00 08000000 feffffff ff000000")},
	} {
		b, e := ifd.Header(c.big, c.first)
		if !bytes.Equal(b, c.want) || e != api.OK {
			t.Errorf("Header of %v, %d is %x, %d; it must be %x", c.big, c.first, b, e, c.want)
		}
	}
	both(t, func(t *testing.T, big bool) {
		top := limit(big)
		for _, first := range []int{1, 2, 4, 6, 7, 9, 11, top - 1, top, top + 1, top + 2, -1, -2, -8, math.MinInt, math.MaxInt, math.MaxInt - 1} {
			if b, e := ifd.Header(big, first); len(b) != 0 || e != api.ErrRange {
				t.Errorf("Header of %d is %x, %d", first, b, e)
			}
		}
		for first := 8; first < 2000; first += 2 {
			b, e := ifd.Header(big, first)
			gotBig, gotFirst, gotE := ifd.Open(b)
			if e != api.OK || gotE != api.OK || gotBig != big || gotFirst != first || len(b) != 2*word(big) {
				t.Errorf("Header of %d is %x, %d, and is opened as %v, %d, %d", first, b, e, gotBig, gotFirst, gotE)
			}
		}
	})
}
