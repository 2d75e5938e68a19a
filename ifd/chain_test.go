package ifd_test

import (
	"bytes"
	"math"
	"slices"
	"testing"

	"clerestory/api"
	"clerestory/ifd"
)

// checkChain asks for a chain, and holds the answer against what it must be.
func checkChain(t *testing.T, name string, file []byte, big bool, first int, want [][]api.Field, e api.Errno) {
	t.Helper()
	l, got := ifd.Chain(file, big, first)
	if got != e || !sameAll(l, want) {
		t.Errorf("%s: Chain from %d is %d directories, %d; it must be %d, %d", name, first, len(l), got, len(want), e)
	}
}

// chained is a file of directories, each with what lies next after it. They lie
// one behind the other, or the other way round, and the file begins with some
// other bytes.
func chained(t *testing.T, all [][]api.Field, big, back bool, last int) (file []byte, places []int) {
	t.Helper()
	places = make([]int, len(all))
	at := 24
	for i := range all {
		k := pick(back, i, len(all)-1-i)
		n, e := ifd.Size(all[k], big)
		if e != api.OK {
			t.Fatal(e)
		}
		places[k] = at
		at += n + 2*(k%3)
	}
	file = upward8(100, at)
	for i, l := range all {
		next := last
		if i+1 < len(all) {
			next = places[i+1]
		}
		b, e := ifd.Put(l, big, places[i], next)
		if e != api.OK {
			t.Fatal(e)
		}
		copy(file[places[i]:], b)
	}
	return file, places
}

// several is n directories that differ.
func several(n int) (all [][]api.Field) {
	for i := range n {
		all = append(all, []api.Field{field(i, api.TypeShort, i+1, 7), field(300, api.TypeAscii, upward(i, 9+i)...)})
	}
	return all
}

func TestP16_3Chain(t *testing.T) {
	both(t, func(t *testing.T, big bool) {
		for _, back := range []bool{false, true} {
			for n := 1; n <= 12; n++ {
				all := several(n)
				file, places := chained(t, all, big, back, 0)
				for i, first := range places {
					if n-i <= 8 {
						checkChain(t, "a chain", file, big, first, all[i:], api.OK)
					} else {
						checkChain(t, "a long chain", file, big, first, nil, api.ErrCycle)
					}
				}
			}
		}
		checkChain(t, "none", nil, big, 0, nil, api.OK)
		checkChain(t, "none of a file", make([]byte, 100), big, 0, nil, api.OK)
		for _, first := range []int{-8, -1, 1, 2, 6, 7, 9, 101, 102, limit(big), math.MinInt, math.MaxInt} {
			checkChain(t, "no offset", make([]byte, 100), big, first, nil, api.ErrRange)
		}
		checkChain(t, "the end of the file", make([]byte, 100), big, 100, nil, api.ErrShort)
		checkChain(t, "zeros", make([]byte, 100), big, 8, nil, api.ErrForm)
	})
}

func TestP16_3Circles(t *testing.T) {
	both(t, func(t *testing.T, big bool) {
		for n := 1; n <= 9; n++ {
			all := several(n)
			_, places := chained(t, all, big, false, 0)
			for _, back := range places {
				file, _ := chained(t, all, big, false, back)
				for _, first := range places {
					checkChain(t, "a circle", file, big, first, nil, api.ErrCycle)
				}
			}
		}
	})
}

// TestP16_3Errors: an error in any directory, which is told unless eight are
// ahead of it.
func TestP16_3Errors(t *testing.T) {
	both(t, func(t *testing.T, big bool) {
		ahead := pick(big, 2, 8)
		for n := 1; n <= 10; n++ {
			all := several(n)
			file, places := chained(t, all, big, false, 0)
			for i, at := range places {
				for _, c := range []struct {
					at  int
					now byte
					e   api.Errno
				}{
					{at, 0, api.ErrForm},
					{at + ahead + 2, 5, api.ErrType},
					{at + ahead + 4, 0, api.ErrLong},
				} {
					bad := slices.Clone(file)
					bad[c.at] = c.now
					checkChain(t, "an error", bad, big, places[0], nil, pick(i < 8, api.ErrCycle, c.e))
				}
			}
			bad, _ := chained(t, all, big, false, len(file))
			checkChain(t, "the next one at the end of the file", bad, big, places[0], nil, pick(n < 8, api.ErrCycle, api.ErrShort))
			for _, last := range []int{len(file) + 2, limit(big) - 2} {
				bad, _ := chained(t, all, big, false, last)
				checkChain(t, "the next one beyond the file", bad, big, places[0], nil, pick(n < 8, api.ErrCycle, api.ErrRange))
			}
		}
	})
}

func TestP16_3Values(t *testing.T) {
	check := func(l []api.Field, tag int, want []int, e api.Errno) {
		t.Helper()
		got, gotE := ifd.Values(l, tag)
		if gotE != e || !slices.Equal(got, want) {
			t.Errorf("Values of %d in %s are %v, %d; they must be %v, %d", tag, told(l), got, gotE, want, e)
		}
		one, oneE := 0, e
		if e == api.OK {
			oneE = api.ErrLong
			if len(want) == 1 {
				one, oneE = want[0], api.OK
			}
		}
		gotOne, gotE := ifd.One(l, tag)
		if gotOne != one || gotE != oneE {
			t.Errorf("One of %d in %s is %d, %d; it must be %d, %d", tag, told(l), gotOne, gotE, one, oneE)
		}
	}
	l := []api.Field{field(256, 3, 7), field(257, 4, 8, 9), field(258, 1, 0), field(300, 16, 1<<53), field(301, 2, upward(1, 2048)...)}
	check(l, 256, []int{7}, api.OK)
	check(l, 257, []int{8, 9}, api.OK)
	check(l, 258, []int{0}, api.OK)
	check(l, 300, []int{1 << 53}, api.OK)
	check(l, 301, upward(1, 2048), api.OK)
	for _, tag := range []int{0, -1, 1, 255, 259, 299, 302, 65535, 65536, 256 + 65536, math.MinInt, math.MaxInt} {
		check(l, tag, nil, api.ErrMissing)
		check(nil, tag, nil, api.ErrMissing)
		check([]api.Field{}, tag, nil, api.ErrMissing)
	}
	// Neither asks whether the directory is valid.
	wrong := []api.Field{field(9, 99, -4), field(-3, 0, 1, 2, 3), field(9, 1, 5), field(9, 1), field(2, 1), field(2, 1, 6), {}, field(70000, 1, math.MinInt)}
	check(wrong, 9, []int{-4}, api.OK)
	check(wrong, -3, []int{1, 2, 3}, api.OK)
	check(wrong, 2, nil, api.OK)
	check(wrong, 0, nil, api.OK)
	check(wrong, 70000, []int{math.MinInt}, api.OK)
	check(wrong, 1, nil, api.ErrMissing)
	check([]api.Field{{Tag: 4, Values: []int{}}}, 4, nil, api.OK)
}

func TestP16_4(t *testing.T) {
	both(t, func(t *testing.T, big bool) {
		d := dice(164)
		for range 1500 {
			l := draw(&d, big)
			at := 2 * (4 + d.below(500))
			next := d.one(0, 8, at, 2*(4+d.below(1<<30)), limit(big)-2)
			b, e := ifd.Put(l, big, at, next)
			if e != api.OK {
				t.Fatal(e)
			}
			file := slices.Concat(upward8(d.below(256), at), b, upward8(d.below(256), d.below(50)))
			checkGet(t, "what was put", file, big, at, l, next, api.OK)
		}
		for _, kind := range kinds(big) {
			var l []api.Field
			for i := range 32 {
				l = append(l, field(65535-31+i, kind, slices.Repeat([]int{most(kind), i, 0, most(kind) - i}, 512)...))
			}
			b, e := ifd.Put(l, big, 4096, 8)
			if e != api.OK {
				t.Fatal(e)
			}
			checkGet(t, "the greatest", append(make([]byte, 4096), b...), big, 4096, l, 8, api.OK)
		}
	})
}

// scrap is bytes that are a directory as often as not: one that was put, with a
// few of its bytes changed.
func scrap(d *dice, big bool) []byte {
	var file []byte
	for range 1 + d.below(3) {
		l := draw(d, big)
		b, _ := ifd.Put(l[:min(len(l), 3)], big, 2*(4+d.below(40)), 2*(4+d.below(60)))
		file = append(file, b[:min(len(b), 150)]...)
		file = append(file, upward8(0, d.below(2))...)
	}
	for range d.below(4) {
		file[d.below(len(file))] = byte(d.one(0, 1, 2, 3, 4, 7, 8, 16, 128, 255, d.below(256)))
	}
	return file
}

// TestP16_5: chains end, with what the model answers, whatever the bytes are.
func TestP16_5(t *testing.T) {
	both(t, func(t *testing.T, big bool) {
		d := dice(165)
		told := map[api.Errno]int{}
		check := func(file []byte) {
			t.Helper()
			for first := -2; first < len(file)+4; first++ {
				if first%2 != 0 && first%7 != 0 {
					continue
				}
				l, e := modelChain(file, big, first)
				checkChain(t, "any bytes", file, big, first, l, e)
				told[e]++
			}
		}
		for range 600 {
			check(scrap(&d, big))
		}
		for range 1500 {
			file := make([]byte, d.below(120))
			for i := range file {
				file[i] = byte(d.one(0, 0, 0, 0, 1, 1, 2, 3, 4, 8, 10, 16, d.below(256)))
			}
			check(file)
		}
		for _, e := range []api.Errno{api.OK, api.ErrRange, api.ErrShort, api.ErrForm, api.ErrType, api.ErrLong} {
			if told[e] < 20 {
				t.Errorf("error %d was told %d times only", e, told[e])
			}
		}
	})
}

// TestP16_5Circles: directories that lie upon one another, each of which is the
// next one of another.
func TestP16_5Circles(t *testing.T) {
	both(t, func(t *testing.T, big bool) {
		one := directory(big, 8, entry(big, 1, 1, 1, 1))
		checkChain(t, "its own next one", behind8(one), big, 8, nil, api.ErrCycle)
		other := 8 + uint64(len(one))
		two := slices.Concat(directory(big, other, entry(big, 1, 1, 1, 1)), directory(big, 8, entry(big, 2, 2, 1, 1)))
		checkChain(t, "two", behind8(two), big, 8, nil, api.ErrCycle)
		checkChain(t, "two, from the other one", behind8(two), big, int(other), nil, api.ErrCycle)
		// Circles of the greatest directories.
		var entries [][]byte
		count := uint64(2048)
		kind := pick(big, 4, 16)
		for i := range 32 {
			entries = append(entries, entry(big, i, kind, count, 8))
		}
		file := slices.Concat(make([]byte, 20000), directory(big, 20000, entries...))
		checkChain(t, "a great one", file, big, 20000, nil, api.ErrCycle)
		l, next, e := ifd.Get(file, big, 20000)
		if len(l) != 32 || next != 20000 || e != api.OK || len(l[31].Values) != 2048 {
			t.Errorf("Get of a great one is %d fields, %d, %d", len(l), next, e)
		}
	})
}

// TestTotal: calls that must end without a panic, whatever they are given.
func TestTotal(t *testing.T) {
	ends := []int{math.MinInt, math.MinInt + 1, -1 << 40, -1 << 32, -1, 0, 1, 7, 8, 9, 1 << 31, 1 << 32, 1 << 40, 1 << 53, 1 << 62, math.MaxInt - 1, math.MaxInt}
	both(t, func(t *testing.T, big bool) {
		for _, a := range ends {
			for _, b := range ends {
				l := []api.Field{field(a, b, a, b), field(b, a, b), {}}
				checkRight(t, "numbers of any kind", l, big, false)
				ifd.Put([]api.Field{field(1, 1, 1)}, big, a, b)
				ifd.Get(make([]byte, 50), big, a)
				ifd.Chain(make([]byte, 50), big, a)
				ifd.Header(big, a)
				ifd.Values(l, a)
				ifd.One(l, b)
			}
		}
		d := dice(166)
		for range 3000 {
			file := make([]byte, d.below(40))
			for i := range file {
				file[i] = byte(d.below(256))
			}
			ifd.Open(file)
			checkModel(t, "random", file, big, 2*d.below(20))
		}
	})
}

// spare is bytes with more behind them, which nothing may write into.
func spare(b []byte) []byte {
	return append(slices.Clone(b), 0xee, 0xee, 0xee, 0xee, 0xee, 0xee)[:len(b)]
}

// spareFields is a directory with spare places behind it and behind its values.
func spareFields(l []api.Field) []api.Field {
	l = append(copied(l), field(77, 7, 77), field(78, 7, 78))[:len(l)]
	for i := range l {
		n := len(l[i].Values)
		l[i].Values = append(slices.Clone(l[i].Values), 0xee, 0xee, 0xee)[:n]
	}
	return l
}

// TestKept: what is handed in stays as it is, with what lies behind it.
func TestKept(t *testing.T) {
	both(t, func(t *testing.T, big bool) {
		all := several(3)
		file, places := chained(t, all, big, false, 0)
		handed := spare(file)
		for _, l := range append(all, nil, []api.Field{field(1, 5, 1), field(1, 1, 300)}) {
			given := spareFields(l)
			for range 2 {
				ifd.Right(given, big)
				ifd.Size(given, big)
				ifd.Put(given, big, 8, 8)
				ifd.Put(given, big, 9, 8)
				ifd.Values(given, 300)
				ifd.One(given, 1)
			}
			if !same(given, l) || cap(given) < len(given)+2 || !same(given[:len(l)+2][len(l):], []api.Field{field(77, 7, 77), field(78, 7, 78)}) {
				t.Errorf("%s is %s now", told(l), told(given))
			}
			for _, f := range given {
				if n := len(f.Values); !slices.Equal(f.Values[:n+3][n:], []int{0xee, 0xee, 0xee}) {
					t.Errorf("behind the values of %d lies %v", f.Tag, f.Values[:n+3][n:])
				}
			}
		}
		ifd.Chain(handed, big, places[0])
		ifd.Get(handed, big, places[1])
		ifd.Get(handed, big, places[1]+2)
		ifd.Open(handed)
		if !bytes.Equal(handed, file) || !bytes.Equal(handed[:len(file)+6][len(file):], raw("eeeeeeeeeeee")) {
			t.Error("a file was changed")
		}
	})
}

// wipe writes over all of a directory, and over what lies behind it.
func wipe(l []api.Field) {
	for i := range l {
		v := l[i].Values[:cap(l[i].Values)]
		for k := range v {
			v[k] = -99
		}
	}
	l = l[:cap(l)]
	for i := range l {
		l[i] = field(-99, -99, -99)
	}
}

// TestNew: what is told may be written over, without a change to anything else.
func TestNew(t *testing.T) {
	both(t, func(t *testing.T, big bool) {
		all := several(4)
		file, places := chained(t, all, big, false, 0)
		before := slices.Clone(file)
		chain, _ := ifd.Chain(file, big, places[0])
		again, _ := ifd.Chain(file, big, places[0])
		for i := range chain {
			for k := range chain[i] {
				wipe(chain[i][k : k+1 : k+1])
				if !same(chain[i][k+1:], all[i][k+1:]) || !sameAll(chain[i+1:], all[i+1:]) {
					t.Errorf("field %d of directory %d shares memory with another one", k, i)
				}
			}
			wipe(chain[i])
		}
		l, _, _ := ifd.Get(file, big, places[1])
		wipe(l)
		if !sameAll(again, all) || !bytes.Equal(file, before) {
			t.Error("a chain shares memory")
		}
		checkChain(t, "once more", file, big, places[0], all, api.OK)

		given := copied(all[2])
		values, _ := ifd.Values(given, 300)
		for i := range values[:cap(values)] {
			values[:cap(values)][i] = -99
		}
		b, _ := ifd.Put(given, big, 8, 8)
		want := slices.Clone(b)
		clear(b[:cap(b)])
		if b, _ = ifd.Put(given, big, 8, 8); !same(given, all[2]) || !bytes.Equal(b, want) {
			t.Error("values or bytes share memory")
		}
		h, _ := ifd.Header(big, 8)
		clear(h[:cap(h)])
		if gotBig, first, e := ifd.Open(h); e == api.OK {
			t.Error("a header of zeros is opened:", gotBig, first)
		}
		h, _ = ifd.Header(big, 8)
		if gotBig, first, e := ifd.Open(h); gotBig != big || first != 8 || e != api.OK {
			t.Error("a header is written over:", gotBig, first, e)
		}
	})
}
