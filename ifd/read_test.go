package ifd_test

import (
	"math"
	"slices"
	"testing"

	"clerestory/api"
	"clerestory/ifd"
)

// checkError asks for a directory that must be refused.
func checkError(t *testing.T, name string, file []byte, big bool, at int, e api.Errno) {
	t.Helper()
	checkGet(t, name, file, big, at, nil, 0, e)
}

// upward8 is n bytes, from one on.
func upward8(from, n int) (b []byte) {
	for i := range n {
		b = append(b, byte(from+i))
	}
	return b
}

func TestP16_2Offsets(t *testing.T) {
	both(t, func(t *testing.T, big bool) {
		l := []api.Field{field(256, api.TypeShort, 7), field(300, api.TypeAscii, upward(60, 11)...)}
		for _, at := range []int{8, 10, 12, 100, 254, 256, 258, 1000} {
			b, _ := ifd.Put(l, big, at, 42)
			for _, behind := range []int{0, 1, 2, 77} {
				file := slices.Concat(upward8(3, at), b, upward8(9, behind))
				checkGet(t, "what was put", file, big, at, l, 42, api.OK)
				for wrong := -3; wrong < 8; wrong++ {
					checkError(t, "ahead of all", file, big, wrong, api.ErrRange)
				}
				for odd := 9; odd < len(file)+20; odd += 2 {
					checkError(t, "odd", file, big, odd, api.ErrRange)
				}
				for beyond := len(file) + 1; beyond < len(file)+300; beyond++ {
					checkError(t, "beyond the file", file, big, beyond, api.ErrRange)
				}
				for _, far := range []int{math.MinInt, math.MaxInt, math.MaxInt - 1, limit(big) - 2, limit(big), limit(big) + 8, 1<<32 + at, 1<<40 + at} {
					checkError(t, "far off", file, big, far, api.ErrRange)
				}
				checkModel(t, "the next one", file, big, at+2)
			}
		}
		for n := 8; n < 40; n++ {
			file := make([]byte, n)
			checkError(t, "the very end", file, big, n, pick(n%2 == 1, api.ErrShort, api.ErrRange))
			checkError(t, "just beyond", file, big, n+2, api.ErrRange)
		}
		checkError(t, "no file", nil, big, 0, api.ErrRange)
		checkError(t, "no file at 8", nil, big, 8, api.ErrRange)
		checkError(t, "an empty file", []byte{}, big, 8, api.ErrRange)
	})
}

// TestP16_2Cut: a directory that is cut short at every byte.
func TestP16_2Cut(t *testing.T) {
	both(t, func(t *testing.T, big bool) {
		l := []api.Field{field(1, api.TypeByte, 1), field(2, api.TypeShort, upward(1, 9)...), field(3, api.TypeAny, upward(4, 9)...)}
		b, _ := ifd.Put(l, big, 8, 8)
		file := behind8(b)
		fixed := pick(big, 2+3*12+4, 8+3*20+8)
		second := pick(big, 2+24, 8+40) // behind the second entry
		values := fixed + 18
		for n := range len(file) + 1 {
			cut := file[:n]
			switch {
			case n < 8:
				checkError(t, "no place", cut, big, 8, api.ErrRange)
			case n < 8+second:
				checkError(t, "two entries", cut, big, 8, api.ErrShort)
			case n < 8+values+9:
				// The second entry is there, but not its values, or, behind these,
				// not those of the third.
				checkError(t, "values", cut, big, 8, api.ErrRange)
			default:
				checkGet(t, "all but the last zero", cut, big, 8, l, 8, api.OK)
			}
			checkModel(t, "cut", cut, big, 8)
		}
	})
}

// TestP16_2CutEntries: where all values lie ahead of the directory, each cut is
// of the number of fields, of an entry or of the next offset.
func TestP16_2CutEntries(t *testing.T) {
	both(t, func(t *testing.T, big bool) {
		d := directory(big, 8, entry(big, 1, 1, 9, 0), entry(big, 2, 2, 10, 2), entry(big, 3, 7, 11, 4))
		file := slices.Concat(upward8(0, 16), d)
		for n := 16; n < len(file); n++ {
			checkError(t, "cut", file[:n], big, 16, api.ErrShort)
		}
		l := []api.Field{field(1, 1, upward(0, 9)...), field(2, 2, upward(2, 10)...), field(3, 7, upward(4, 11)...)}
		checkGet(t, "whole", file, big, 16, l, 8, api.OK)
	})
}

func TestP16_2Fields(t *testing.T) {
	both(t, func(t *testing.T, big bool) {
		var entries [][]byte
		for i := range 40 {
			entries = append(entries, entry(big, 10*i, api.TypeByte, 1, uint64(i)))
		}
		for n := range 41 {
			file := behind8(directory(big, 0, entries[:n]...))
			switch {
			case n == 0 || n > 32:
				checkError(t, "a number of fields", file, big, 8, api.ErrForm)
			default:
				l, next, e := ifd.Get(file, big, 8)
				if len(l) != n || next != 0 || e != api.OK || l[n-1].Tag != 10*(n-1) || l[n-1].Values[0] != n-1 {
					t.Errorf("%d fields: %s, %d, %d", n, told(l), next, e)
				}
			}
		}
		size := pick(big, 2, 8)
		for _, n := range []uint64{0, 33, 34, 100, 255, 256, 257, 0x2000, 65535} {
			// The number alone is asked ahead of the entries.
			checkError(t, "no entries", behind8(number(n, size)), big, 8, api.ErrForm)
		}
		for _, n := range []uint64{1, 2, 32} {
			checkError(t, "no entries", behind8(number(n, size)), big, 8, api.ErrShort)
		}
	})
	for _, n := range []uint64{65536, 65536 + 1, 1 << 32, 1<<32 + 1, 1<<62 + 1, 1<<63 - 1} {
		checkError(t, "many fields", behind8(number(n, 8)), true, 8, api.ErrForm)
	}
	for _, n := range []uint64{1 << 63, 1<<63 + 1, 1<<64 - 1} {
		checkError(t, "far too many fields", behind8(number(n, 8)), true, 8, api.ErrRange)
	}
}

func TestP16_2Types(t *testing.T) {
	both(t, func(t *testing.T, big bool) {
		for kind := range 65536 {
			file := behind8(directory(big, 0, entry(big, 5, kind, 1, 0x21)))
			if slices.Contains(kinds(big), kind) {
				checkGet(t, "a type", file, big, 8, []api.Field{field(5, kind, 0x21)}, 0, api.OK)
			} else if _, _, e := ifd.Get(file, big, 8); e != api.ErrType {
				t.Errorf("type %d: %d", kind, e)
			}
		}
	})
}

func TestP16_2Counts(t *testing.T) {
	both(t, func(t *testing.T, big bool) {
		space := upward8(0, 20000)
		for _, kind := range kinds(big) {
			for _, count := range []uint64{0, 2049, 2050, 4096, 1 << 16, 1<<16 + 1, 1<<32 - 1} {
				file := slices.Concat(space, directory(big, 0, entry(big, 5, kind, count, 8)))
				checkError(t, "a count", file, big, len(space), api.ErrLong)
			}
			for _, count := range []uint64{uint64(word(big)/width(kind)) + 1, 100, 1024, 2047, 2048} {
				file := slices.Concat(make([]byte, 20000), directory(big, 0, entry(big, 5, kind, count, 8)))
				checkGet(t, "zeros", file, big, 20000, []api.Field{field(5, kind, make([]int, count)...)}, 0, api.OK)
				short := behind8(directory(big, 0, entry(big, 5, kind, count, 8)))
				if length := int(count) * width(kind); length > len(short)-8 {
					checkError(t, "more than fits", short, big, 8, api.ErrRange)
				}
			}
		}
	})
	for _, kind := range kinds(true) {
		for _, count := range []uint64{1 << 32, 1<<32 + 1, 1<<40 + 1, 1<<62 + 1, 1<<61 + 1, 1<<63 - 1} {
			checkError(t, "a great count", behind8(directory(true, 0, entry(true, 5, kind, count, 0))), true, 8, api.ErrLong)
		}
		for _, count := range []uint64{1 << 63, 1<<63 + 1, 1<<64 - 1} {
			checkError(t, "no count", behind8(directory(true, 0, entry(true, 5, kind, count, 0))), true, 8, api.ErrRange)
		}
	}
}

func TestP16_2Values(t *testing.T) {
	both(t, func(t *testing.T, big bool) {
		for _, kind := range kinds(big) {
			count := word(big)/width(kind) + 1
			length := count * width(kind)
			var want []int
			var bytes []byte
			for i := range count {
				want = append(want, most(kind)-3*i)
				bytes = append(bytes, number(uint64(want[i]), width(kind))...)
			}
			for _, from := range []int{0, 2, 4, 6, 8, 16, 24} {
				file := upward8(1, 64)
				copy(file[from:], bytes)
				all := slices.Concat(file, directory(big, 0, entry(big, 5, kind, uint64(count), uint64(from))))
				checkGet(t, "values elsewhere", all, big, 64, []api.Field{field(5, kind, want...)}, 0, api.OK)
			}
			file := upward8(1, 64)
			bare := len(file) + len(directory(big, 0, entry(big, 5, kind, 0, 0)))
			for from := range bare + 30 {
				b := slices.Concat(file, directory(big, 0, entry(big, 5, kind, uint64(count), uint64(from))))
				checkModel(t, "values anywhere", b, big, 64)
				if from%2 == 1 || from+length > bare {
					checkError(t, "values that are not there", b, big, 64, api.ErrRange)
				}
			}
			for pad := range 5 {
				// Values that end where the file ends, and one byte beyond.
				b := slices.Concat(file, directory(big, 0, entry(big, 5, kind, uint64(count), uint64(bare))), make([]byte, length-1+pad))
				if pad == 0 {
					checkError(t, "a byte too few", b, big, 64, api.ErrRange)
				} else {
					checkGet(t, "just enough", b, big, 64, []api.Field{field(5, kind, make([]int, count)...)}, 0, api.OK)
				}
			}
			for _, from := range []uint64{1<<31 - 2, 1 << 31, 1<<32 - 2, 1<<32 - 1} {
				b := slices.Concat(file, directory(big, 0, entry(big, 5, kind, uint64(count), from)))
				checkError(t, "values far off", b, big, 64, api.ErrRange)
			}
		}
	})
	for _, from := range []uint64{1 << 32, 1 << 40, 1<<63 - 2, 1<<63 - 1, 1<<63 - 16, 1 << 63, 1<<63 + 8, 1<<64 - 2, 1<<64 - 16} {
		for _, kind := range kinds(true) {
			b := behind8(directory(true, 0, entry(true, 5, kind, 9, from)))
			checkError(t, "values far off", b, true, 8, api.ErrRange)
		}
	}
}

// TestP16_2InEntry: bytes behind the values in an entry are ignored.
func TestP16_2InEntry(t *testing.T) {
	b := raw("0400", "0100 0100 01000000 11ffffff", "0200 0200 03000000 212223ff", "0300 0300 01000000 3132ffff", "0400 0400 01000000 41424344", "0a000000")
	l := []api.Field{field(1, 1, 0x11), field(2, 2, 0x21, 0x22, 0x23), field(3, 3, 0x3231), field(4, 4, 0x44434241)}
	checkGet(t, "TIFF", behind8(b), false, 8, l, 10, api.OK)
	b = raw("05000000 00000000",
		"0100 0700 0700000000000000 11121314151617ff",
		"0200 0300 0300000000000000 212223242526ffff",
		"0300 0400 0100000000000000 31323334ffffffff",
		"0400 0400 0200000000000000 4142434445464748",
		"0500 1000 0100000000000000 5152535455561700",
		"0a000000 ff000000")
	l = []api.Field{field(1, 7, 0x11, 0x12, 0x13, 0x14, 0x15, 0x16, 0x17), field(2, 3, 0x2221, 0x2423, 0x2625), field(3, 4, 0x34333231),
		field(4, 4, 0x44434241, 0x48474645), field(5, 16, 0x17565554535251)}
	checkGet(t, "BigTIFF", behind8(b), true, 8, l, 0xff0000000a, api.OK)
}

func TestP16_2GreatValues(t *testing.T) {
	one := func(n uint64) []byte { return behind8(directory(true, 0, entry(true, 5, 16, 1, n))) }
	for _, n := range []uint64{0, 1, 1 << 32, 1<<53 - 1, 1 << 53} {
		checkGet(t, "a value", one(n), true, 8, []api.Field{field(5, 16, int(n))}, 0, api.OK)
	}
	for _, n := range []uint64{1<<53 + 1, 1<<53 + 2, 1 << 54, 1<<63 - 1, 1 << 63, 1<<63 + 1, 1<<64 - 1} {
		checkError(t, "a great value", one(n), true, 8, api.ErrRange)
		for place := range 3 {
			values := [3]uint64{7, 1 << 53, 0}
			values[place] = n
			b := slices.Concat(number(values[0], 8), number(values[1], 8), number(values[2], 8), directory(true, 0, entry(true, 5, 16, 3, 0)))
			checkError(t, "a great value elsewhere", b, true, 24, api.ErrRange)
		}
	}
}

func TestP16_2Tags(t *testing.T) {
	both(t, func(t *testing.T, big bool) {
		for _, c := range []struct {
			right bool
			tags  []int
		}{
			{true, []int{0}}, {true, []int{65535}}, {true, []int{0, 1}}, {true, []int{0, 65535}}, {true, []int{1, 2, 3, 65534, 65535}},
			{false, []int{0, 0}}, {false, []int{1, 1}}, {false, []int{65535, 65535}}, {false, []int{1, 0}}, {false, []int{65535, 0}},
			{false, []int{1, 2, 2}}, {false, []int{1, 3, 2}}, {false, []int{2, 1, 3}}, {false, []int{256, 1}}, {false, []int{1, 5, 6, 4}},
		} {
			var entries [][]byte
			var l []api.Field
			for i, tag := range c.tags {
				entries = append(entries, entry(big, tag, 1, 1, uint64(i)))
				l = append(l, field(tag, 1, i))
			}
			file := behind8(directory(big, 0, entries...))
			if c.right {
				checkGet(t, "tags", file, big, 8, l, 0, api.OK)
			} else {
				checkError(t, "tags", file, big, 8, api.ErrForm)
			}
		}
	})
}

func TestP16_2Next(t *testing.T) {
	both(t, func(t *testing.T, big bool) {
		l := []api.Field{field(5, 3, 77)}
		top := uint64(limit(big))
		for _, next := range []uint64{0, 8, 10, 256, 1 << 31, top - 2} {
			checkGet(t, "next", behind8(directory(big, next, entry(big, 5, 3, 1, 77))), big, 8, l, int(next), api.OK)
		}
		for _, next := range []uint64{1, 2, 3, 4, 5, 6, 7, 9, 11, 255, 257, 1<<31 + 1, top - 1} {
			checkError(t, "next", behind8(directory(big, next, entry(big, 5, 3, 1, 77))), big, 8, api.ErrRange)
		}
	})
	for _, next := range []uint64{1 << 40, 1<<40 + 8, 1 << 41, 1<<63 - 2, 1 << 63, 1<<63 + 8, 1<<64 - 2, 1<<64 - 8} {
		checkError(t, "next", behind8(directory(true, next, entry(true, 5, 3, 1, 77))), true, 8, api.ErrRange)
	}
	checkGet(t, "next", behind8(directory(true, 1<<32, entry(true, 5, 3, 1, 77))), true, 8, []api.Field{field(5, 3, 77)}, 1<<32, api.OK)
}

// TestP16_2Order: of what is wrong in an entry, in two, or in all of a
// directory, the first is told.
func TestP16_2Order(t *testing.T) {
	both(t, func(t *testing.T, big bool) {
		out := uint64(word(big) + 1) // so many bytes are not in an entry
		good := entry(big, 50, 1, 1, 7)
		noType := entry(big, 60, 5, 1, 7)
		noTypeNoCount := entry(big, 60, 0, 0, 7)
		noTypeMany := entry(big, 60, 5, 2049, 1)
		noTypeLower := entry(big, 40, 5, 1, 7)
		noCount := entry(big, 60, 1, 0, 7)
		manyOdd := entry(big, 60, 1, 2049, 1)
		noCountLower := entry(big, 40, 1, 0, 7)
		odd := entry(big, 60, 1, out, 9)
		oddLower := entry(big, 40, 1, out, 9)
		farLower := entry(big, 40, 1, out, 100000)
		lower := entry(big, 40, 1, 1, 7)
		equal := entry(big, 50, 1, 1, 7)
		later := entry(big, 70, 1, 1, 7)
		for _, c := range []struct {
			name    string
			e       api.Errno
			entries [][]byte
		}{
			{"type, count", api.ErrType, [][]byte{noTypeNoCount}},
			{"type, count, offset", api.ErrType, [][]byte{noTypeMany}},
			{"type, tag", api.ErrType, [][]byte{good, noTypeLower}},
			{"count, offset", api.ErrLong, [][]byte{manyOdd}},
			{"count, tag", api.ErrLong, [][]byte{good, noCountLower}},
			{"odd, tag", api.ErrRange, [][]byte{good, oddLower}},
			{"far, tag", api.ErrRange, [][]byte{good, farLower}},
			{"type, then count", api.ErrType, [][]byte{noType, noCount}},
			{"type, then tag", api.ErrType, [][]byte{noType, lower}},
			{"count, then type", api.ErrLong, [][]byte{noCount, noType}},
			{"count, then tag", api.ErrLong, [][]byte{noCount, lower}},
			{"odd, then type", api.ErrRange, [][]byte{odd, noType}},
			{"odd, then count", api.ErrRange, [][]byte{odd, noCount}},
			{"odd, then tag", api.ErrRange, [][]byte{odd, lower}},
			{"tag, then type", api.ErrForm, [][]byte{good, equal, noType}},
			{"tag, then count", api.ErrForm, [][]byte{good, lower, noCount}},
			{"tag, then odd", api.ErrForm, [][]byte{good, equal, odd}},
			{"good, then type", api.ErrType, [][]byte{good, noType, lower}},
			{"tag between the first two", api.ErrForm, [][]byte{good, later, entry(big, 55, 1, 1, 7)}},
		} {
			for _, next := range []uint64{0, 9} {
				file := behind8(directory(big, next, c.entries...))
				checkError(t, c.name, file, big, 8, c.e)
				checkModel(t, c.name, file, big, 8)
				// One field more is told than there is, and the file ends: what was
				// there comes first.
				more := slices.Clone(file[:len(file)-word(big)])
				more[8]++
				checkError(t, c.name+", cut", more, big, 8, c.e)
			}
		}
		for _, c := range [][]byte{good, later} {
			file := behind8(directory(big, 9, c))
			checkError(t, "next", file, big, 8, api.ErrRange)
			checkError(t, "next cut", file[:len(file)-1], big, 8, api.ErrShort)
			more := slices.Clone(file)
			more[8]++
			checkError(t, "a second entry cut", more, big, 8, api.ErrShort)
		}
		// The number of fields comes ahead of all entries.
		file := behind8(number(0, pick(big, 2, 8)), noType)
		checkError(t, "no fields", file, big, 8, api.ErrForm)
	})
}

// TestP16_2Beyond: a number that exceeds 2^63 - 1 is told where it is read.
func TestP16_2Beyond(t *testing.T) {
	const beyond = 1<<63 + 8
	good := entry(true, 50, 1, 1, 7)
	for _, c := range []struct {
		name    string
		e       api.Errno
		entries [][]byte
	}{
		{"type ahead of a count", api.ErrType, [][]byte{entry(true, 60, 5, beyond, 7)}},
		{"type ahead of both", api.ErrType, [][]byte{entry(true, 60, 5, beyond, beyond)}},
		{"a count", api.ErrRange, [][]byte{entry(true, 60, 1, beyond, 7)}},
		{"a count ahead of a tag", api.ErrRange, [][]byte{good, entry(true, 40, 1, beyond, 7)}},
		{"a count ahead of an offset", api.ErrLong, [][]byte{entry(true, 60, 1, 0, beyond)}},
		{"another count ahead of an offset", api.ErrLong, [][]byte{entry(true, 60, 1, 2049, beyond)}},
		{"an offset ahead of a tag", api.ErrRange, [][]byte{good, entry(true, 40, 1, 9, beyond)}},
		{"a value ahead of a tag", api.ErrRange, [][]byte{good, entry(true, 40, 16, 1, beyond)}},
		{"a value ahead of a type", api.ErrRange, [][]byte{entry(true, 40, 16, 1, 1<<53+1), entry(true, 50, 5, 1, 1)}},
		{"a tag ahead of a count", api.ErrForm, [][]byte{good, good, entry(true, 60, 1, beyond, 7)}},
		{"a tag ahead of a value", api.ErrForm, [][]byte{good, good, entry(true, 60, 16, 1, beyond)}},
		{"a type ahead of a value", api.ErrType, [][]byte{entry(true, 60, 5, 1, 1), entry(true, 70, 16, 1, beyond)}},
	} {
		for _, next := range []uint64{0, 9, beyond} {
			checkError(t, c.name, behind8(directory(true, next, c.entries...)), true, 8, c.e)
		}
	}
	// Bytes that are no offset and no values of eight bytes may be any.
	for _, kind := range []int{1, 2, 3, 4, 7} {
		file := behind8(directory(true, 0, entry(true, 60, kind, 1, 1<<64-1)))
		checkGet(t, "a small value", file, true, 8, []api.Field{field(60, kind, most(kind))}, 0, api.OK)
	}
}

// TestP16_2Changed: what was put, with each byte changed.
func TestP16_2Changed(t *testing.T) {
	both(t, func(t *testing.T, big bool) {
		d := dice(163)
		for range 40 {
			l := draw(&d, big)[:1]
			if other := draw(&d, big)[0]; d.below(3) > 0 && other.Tag > l[0].Tag {
				l = append(l, other)
			}
			b, e := ifd.Put(l, big, 8, d.one(0, 8, 10))
			if e != api.OK {
				t.Fatal(e)
			}
			file := behind8(b)
			if len(file) > 200 {
				file = file[:200]
			}
			for i := range file {
				old := file[i]
				for _, now := range []byte{0, 1, 2, 7, 16, 128, 255, old + 1, old - 1, old ^ 1, old ^ 128} {
					file[i] = now
					checkModel(t, "changed", file, big, 8)
				}
				file[i] = old
			}
		}
	})
}

func TestP16_2Open(t *testing.T) {
	check := func(name string, file []byte, big bool, first int, e api.Errno) {
		t.Helper()
		gotBig, gotFirst, gotE := ifd.Open(file)
		if gotBig != big || gotFirst != first || gotE != e {
			t.Errorf("%s: Open of %x is %v, %d, %d; it must be %v, %d, %d", name, file, gotBig, gotFirst, gotE, big, first, e)
		}
	}
	plain := raw("49492a00 08000000")
	big := raw("49492b00 08000000 08000000 00000000")
	check("none", nil, false, 0, api.ErrShort)
	for n := range plain {
		check("TIFF cut", plain[:n], false, 0, api.ErrShort)
	}
	for n := range big {
		check("BigTIFF cut", big[:n], false, 0, api.ErrShort)
	}
	check("TIFF", plain, false, 8, api.OK)
	check("BigTIFF", big, true, 8, api.OK)
	for behind := range 20 {
		check("TIFF, more", slices.Concat(plain, upward8(200, behind)), false, 8, api.OK)
		check("BigTIFF, more", slices.Concat(big, upward8(200, behind)), true, 8, api.OK)
	}
	// A BigTIFF's first four bytes alone ask for 16, whatever stands behind them.
	for n := 8; n < 16; n++ {
		check("BigTIFF cut and wrong", append(raw("49492b00"), slices.Repeat([]byte{9}, n-4)...), false, 0, api.ErrShort)
		for _, start := range []string{"49492c00", "49492b01", "49482b00", "4a492b00"} {
			check("no TIFF", append(raw(start), slices.Repeat([]byte{9}, n-4)...), false, 0, api.ErrForm)
		}
		check("zeros", make([]byte, n), false, 0, api.ErrForm)
	}
	check("BigTIFF wrong", append(raw("49492b00"), slices.Repeat([]byte{9}, 12)...), false, 0, api.ErrForm)
	check("short and wrong", raw("4d4d002a000000"), false, 0, api.ErrShort)
	check("big-endian", raw("4d4d002a00000008"), false, 0, api.ErrForm)
	check("form ahead of range", raw("49492d00 07000000"), false, 0, api.ErrForm)
	check("form ahead of range, big", raw("49492b00 08000100 07000000 00000000"), false, 0, api.ErrForm)
	check("form ahead of range, beyond", raw("49492b00 04000000 07000000 00000080"), false, 0, api.ErrForm)
	for _, c := range [][]byte{plain, slices.Concat(plain, make([]byte, 12)), big, slices.Concat(big, upward8(0, 9))} {
		for i := range min(len(c), 20) {
			for now := range 256 {
				b := slices.Clone(c)
				b[i] = byte(now)
				gotBig, gotFirst, gotE := modelOpen(b)
				check("changed", b, gotBig, gotFirst, gotE)
			}
		}
	}
	for i := range 4 {
		b := slices.Clone(plain)
		b[i]++
		check("a mark changed", b, false, 0, pick(i == 2, api.ErrForm, api.ErrShort))
	}
	for i := range 8 {
		b := slices.Clone(big)
		b[i]++
		check("a mark changed, big", b, false, 0, api.ErrForm)
	}
}

func TestP16_2OpenFirst(t *testing.T) {
	both(t, func(t *testing.T, big bool) {
		start := pick(big, raw("49492a00"), raw("49492b0008000000"))
		top := uint64(limit(big))
		for _, first := range []uint64{0, 8, 10, 256, 65536, 1 << 31, top - 2} {
			gotBig, got, e := ifd.Open(slices.Concat(start, number(first, word(big))))
			if gotBig != big || got != int(first) || e != api.OK {
				t.Errorf("first %d is %v, %d, %d", first, gotBig, got, e)
			}
		}
		wrong := []uint64{1, 2, 3, 4, 5, 6, 7, 9, 11, 257, 1<<31 + 1, 1<<32 - 1}
		if big {
			wrong = append(wrong, 1<<40-1, 1<<40, 1<<40+2, 1<<63-2, 1<<63-1, 1<<63, 1<<63+8, 1<<64-2, 1<<64-1)
		}
		for _, first := range wrong {
			gotBig, got, e := ifd.Open(slices.Concat(start, number(first, word(big))))
			if gotBig || got != 0 || e != api.ErrRange {
				t.Errorf("first %d is %v, %d, %d", first, gotBig, got, e)
			}
		}
	})
}
