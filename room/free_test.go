package room_test

import (
	"fmt"
	"math"
	"slices"
	"testing"

	"clerestory/api"
	"clerestory/room"
)

// checkFree holds what Free tells against the model.
func checkFree(t *testing.T, sectors int, used []api.Extent) {
	t.Helper()
	m, want := modelOf(sectors, used)
	free, e := room.Free(sectors, used)
	if e != want || !slices.Equal(free, m.free()) {
		t.Errorf("Free(%d, %v) is %v, %d; it must be %v, %d", sectors, used, free, e, m.free(), want)
	}
}

// checkSame holds what Free tells against what the test says, and the model
// too.
func checkSame(t *testing.T, sectors int, used, free []api.Extent) {
	t.Helper()
	got, e := room.Free(sectors, used)
	if e != api.OK || !slices.Equal(got, free) {
		t.Errorf("Free(%d, %v) is %v, %d; it must be %v", sectors, used, got, e, free)
	}
	if m, f := modelOf(sectors, used); f != api.OK || !slices.Equal(m.free(), free) {
		t.Errorf("the model of %d, %v is %v, %d; it must be %v", sectors, used, m.free(), f, free)
	}
}

// checkRefused holds that neither Free nor New takes some extents, and why.
func checkRefused(t *testing.T, sectors int, used []api.Extent, want api.Errno) {
	t.Helper()
	if free, e := room.Free(sectors, used); e != want || len(free) != 0 {
		t.Errorf("Free(%d, %v) is %v, %d; it must be %d", sectors, used, free, e, want)
	}
	if m, e := room.New(sectors, used); e != want || m != nil {
		t.Errorf("New(%d, %v) is %v, %d; it must be nil, %d", sectors, used, m, e, want)
	}
	if _, e := modelOf(sectors, used); e != want {
		t.Errorf("the model of %d, %v is %d; it must be %d", sectors, used, e, want)
	}
}

// refusedExtents is extents that are not valid on a disk of so many sectors.
func refusedExtents(sectors int) []api.Extent {
	return list(
		-1, 1, -1, 2, -1, sectors, -1, sectors+1, -1, sectors+2, -sectors, 1, -sectors, 2*sectors, math.MinInt, 1, math.MinInt, math.MaxInt,
		0, 0, 0, -1, 1, 0, 1, -1, sectors-1, 0, sectors, 0, sectors, -1, sectors+1, -1, sectors+1, -2, 0, math.MinInt, 5, math.MinInt,
		0, sectors+1, 1, sectors, sectors-1, 2, sectors, 1, sectors+1, 1, 2*sectors, 1, math.MaxInt, 0, math.MaxInt, -1, math.MaxInt, math.MinInt,
		1, math.MaxInt, 2, math.MaxInt, sectors-1, math.MaxInt, math.MaxInt, 1, math.MaxInt, 2, math.MaxInt-1, 2, math.MaxInt, math.MaxInt,
		0, math.MaxInt, 1<<62, 1<<62, 3<<61, 1<<61, math.MinInt, math.MinInt, -1, -1, -1, math.MinInt, math.MaxInt-3, 5, 1<<62, 1<<62+1,
		-5, math.MinInt+10, math.MinInt+2, math.MinInt+3, 1<<32, 1, 0, 1<<32+1, 1<<32+1, 1<<32-1,
	)
}

func TestExample1(t *testing.T) {
	checkSame(t, 10, list(2, 3), list(0, 2, 5, 5))
	m, e := room.New(10, list(2, 3))
	if e != api.OK || !slices.Equal(m.Free(), list(0, 2, 5, 5)) || m.Left() != 7 || m.End() != 5 {
		t.Fatal("New:", m.Free(), m.Left(), m.End(), e)
	}
	if taken, e := m.Take(3); taken != ex(5, 3) || e != api.OK {
		t.Error("Take(3):", taken, e)
	}
	if !slices.Equal(m.Free(), list(0, 2, 8, 2)) || m.Left() != 4 || m.End() != 8 {
		t.Error("behind Take(3):", m.Free(), m.Left(), m.End())
	}
}

func TestP17_1Need(t *testing.T) {
	for _, c := range [][2]int{
		{math.MinInt, 0}, {math.MinInt + 1, 0}, {-1 << 32, 0}, {-129, 0}, {-128, 0}, {-127, 0}, {-1, 0}, {0, 0},
		{1, 1}, {2, 1}, {64, 1}, {126, 1}, {127, 1}, {128, 1}, {129, 2}, {130, 2}, {255, 2}, {256, 2}, {257, 3}, {384, 3}, {385, 4},
		{1 << 16, 512}, {1<<16 + 1, 513}, {1 << 19, 4096}, {1<<19 + 1, 4097}, {1<<32 - 1, 1 << 25}, {1 << 32, 1 << 25}, {1<<32 + 1, 1<<25 + 1},
		{math.MaxInt - 128, 1<<56 - 1}, {math.MaxInt - 127, 1<<56 - 1}, {math.MaxInt - 126, 1 << 56}, {math.MaxInt - 1, 1 << 56}, {math.MaxInt, 1 << 56},
	} {
		if n := room.Need(c[0]); n != c[1] {
			t.Errorf("Need(%d) is %d; it must be %d", c[0], n, c[1])
		}
	}
}

func TestP17_1NeedOfAll(t *testing.T) {
	sectors := 0
	for n := 0; n < 3000; n++ {
		// A byte more has no room once the sectors are full.
		if n > sectors*128 {
			sectors++
		}
		if got := room.Need(n); got != sectors {
			t.Errorf("Need(%d) is %d; it must be %d", n, got, sectors)
		}
		if got := room.Need(-n); got != 0 {
			t.Errorf("Need(%d) is %d", -n, got)
		}
		far := uint64(math.MaxInt - n)
		if got := room.Need(int(far)); uint64(got) != (far+127)/128 {
			t.Errorf("Need(%d) is %d", far, got)
		}
	}
}

func TestP17_1Sectors(t *testing.T) {
	for _, sectors := range []int{0, -1, -2, -10, -4096, 4097, 4098, 8192, 1<<32 + 1, math.MinInt, math.MaxInt} {
		for _, used := range [][]api.Extent{nil, {}, list(0, 1), list(0, 1, 0, 1), list(-1, 1), list(0, 4097)} {
			checkRefused(t, sectors, used, api.ErrArg)
		}
	}
	for _, sectors := range []int{1, 2, 3, 127, 128, 4095, 4096} {
		checkSame(t, sectors, nil, list(0, sectors))
		checkSame(t, sectors, []api.Extent{}, list(0, sectors))
		checkSame(t, sectors, list(0, sectors), nil)
	}
}

func TestP17_1FreeExtents(t *testing.T) {
	for _, c := range []struct {
		sectors    int
		used, free []api.Extent
	}{
		{2, list(0, 1), list(1, 1)}, {2, list(1, 1), list(0, 1)}, {2, list(0, 1, 1, 1), nil}, {2, list(1, 1, 0, 1), nil},
		{10, list(0, 1), list(1, 9)}, {10, list(9, 1), list(0, 9)}, {10, list(0, 9), list(9, 1)}, {10, list(1, 9), list(0, 1)},
		{10, list(0, 1, 9, 1), list(1, 8)}, {10, list(9, 1, 0, 1), list(1, 8)}, {10, list(1, 8), list(0, 1, 9, 1)},
		{10, list(4, 1), list(0, 4, 5, 5)}, {10, list(4, 1, 5, 1), list(0, 4, 6, 4)}, {10, list(5, 1, 4, 1), list(0, 4, 6, 4)},
		{10, list(4, 1, 6, 1), list(0, 4, 5, 1, 7, 3)}, {10, list(6, 1, 4, 1), list(0, 4, 5, 1, 7, 3)},
		{10, list(0, 3, 3, 3, 6, 4), nil}, {10, list(6, 4, 0, 3, 3, 3), nil}, {10, list(3, 3, 6, 4, 0, 3), nil},
		{10, list(7, 2, 1, 2, 4, 1), list(0, 1, 3, 1, 5, 2, 9, 1)}, {10, list(4, 1, 7, 2, 1, 2), list(0, 1, 3, 1, 5, 2, 9, 1)},
		{10, list(8, 2, 0, 2, 4, 2), list(2, 2, 6, 2)}, {10, list(1, 1, 3, 1, 5, 1, 7, 1, 9, 1), list(0, 1, 2, 1, 4, 1, 6, 1, 8, 1)},
		{4096, list(0, 1), list(1, 4095)}, {4096, list(4095, 1), list(0, 4095)}, {4096, list(1, 4094), list(0, 1, 4095, 1)},
		{4096, list(2048, 2047, 1, 2047), list(0, 1, 4095, 1)}, {4096, list(2048, 2048, 0, 2048), nil}, {4096, list(2049, 2047, 0, 2048), list(2048, 1)},
	} {
		checkSame(t, c.sectors, c.used, c.free)
	}
}

func TestP17_1ErrSector(t *testing.T) {
	for _, sectors := range []int{1, 2, 10, 4095, 4096} {
		for _, bad := range refusedExtents(sectors) {
			checkRefused(t, sectors, []api.Extent{bad}, api.ErrSector)
			checkRefused(t, sectors, []api.Extent{bad, ex(0, 1)}, api.ErrSector)
			checkRefused(t, sectors, []api.Extent{ex(0, 1), bad}, api.ErrSector)
			checkRefused(t, sectors, []api.Extent{ex(0, sectors), bad, bad}, api.ErrSector)
		}
	}
}

func TestP17_1ErrOverlap(t *testing.T) {
	for _, c := range [][]api.Extent{
		list(2, 3, 4, 3), list(4, 3, 2, 3), list(0, 2, 1, 2), list(7, 2, 8, 2), list(0, 10, 9, 1), list(0, 10, 0, 1), list(9, 1, 0, 10), // by one sector
		list(2, 3, 2, 3), list(0, 1, 0, 1), list(9, 1, 9, 1), list(0, 10, 0, 10), list(2, 3, 6, 1, 2, 3), // the same
		list(2, 5, 3, 2), list(3, 2, 2, 5), list(2, 5, 2, 2), list(2, 2, 2, 5), list(2, 5, 5, 2), list(0, 10, 4, 1), list(4, 1, 0, 10), // one within the other
		list(0, 10, 1, 1, 3, 1, 5, 1), list(1, 5, 2, 1, 4, 1), list(1, 5, 8, 1, 2, 1), list(4, 1, 2, 1, 1, 5), // one that has two others
		list(0, 1, 1, 1, 2, 1, 3, 1, 2, 1), list(8, 2, 6, 2, 4, 2, 2, 2, 0, 2, 5, 1), list(0, 5, 5, 5, 4, 1), // one of many
		list(0, 6, 4, 6), list(4, 6, 0, 6), list(0, 9, 1, 9), list(1, 9, 0, 9), list(0, 4, 2, 4, 4, 4),
	} {
		checkRefused(t, 10, c, api.ErrOverlap)
	}
	checkRefused(t, 4096, list(0, 4096, 4095, 1), api.ErrOverlap)
	checkRefused(t, 4096, list(4095, 1, 4095, 1), api.ErrOverlap)
	checkRefused(t, 1, list(0, 1, 0, 1), api.ErrOverlap)
}

func TestP17_1WhichError(t *testing.T) {
	for _, bad := range refusedExtents(10) {
		// Extents that overlap stand ahead, behind, and on both sides.
		checkRefused(t, 10, []api.Extent{ex(1, 2), ex(2, 2), bad}, api.ErrSector)
		checkRefused(t, 10, []api.Extent{bad, ex(1, 2), ex(2, 2)}, api.ErrSector)
		checkRefused(t, 10, []api.Extent{ex(1, 2), bad, ex(1, 2)}, api.ErrSector)
		checkRefused(t, 10, []api.Extent{bad, bad}, api.ErrSector)
		checkRefused(t, 0, []api.Extent{ex(1, 2), ex(2, 2), bad}, api.ErrArg)
		checkRefused(t, 4097, []api.Extent{bad, ex(1, 2), ex(2, 2)}, api.ErrArg)
		checkRefused(t, -10, []api.Extent{bad}, api.ErrArg)
	}
	checkRefused(t, 4097, list(0, 4097), api.ErrArg)
	checkRefused(t, 4096, list(0, 4097), api.ErrSector)
	checkRefused(t, 4096, list(0, 4096, 0, 4097), api.ErrSector)
	checkRefused(t, 4096, list(0, 4096, 0, 4096), api.ErrOverlap)
}

func TestP17_1EveryDisk(t *testing.T) {
	d := dice(171)
	everyDisk(10, func(m model) {
		checkSame(t, len(m), m.used(), m.free())
		l := m.singles()
		checkSame(t, len(m), l, m.free())
		d.mix(l)
		checkSame(t, len(m), l, m.free())
		slices.Reverse(l)
		checkSame(t, len(m), l, m.free())
	})
}

// TestP17_1EveryPair has valid extents and others, some beside and some upon
// one another.
func TestP17_1EveryPair(t *testing.T) {
	for _, sectors := range []int{1, 2, 3, 5, 6} {
		var l []api.Extent
		for at := -1; at <= sectors+1; at++ {
			for size := -1; size <= sectors+1; size++ {
				l = append(l, ex(at, size))
			}
		}
		for _, a := range l {
			checkFree(t, sectors, []api.Extent{a})
			for _, b := range l {
				checkFree(t, sectors, []api.Extent{a, b})
			}
		}
	}
}

func TestP17_1EveryThree(t *testing.T) {
	const sectors = 5
	var l []api.Extent
	for at := range sectors {
		for size := 1; size <= sectors-at; size++ {
			l = append(l, ex(at, size))
		}
	}
	l = append(l, ex(sectors, 1))
	for _, a := range l {
		for _, b := range l {
			for _, c := range l {
				checkFree(t, sectors, []api.Extent{a, b, c})
			}
		}
	}
}

func TestP17_1AnyDisk(t *testing.T) {
	d := dice(1711)
	for range 300 {
		m := d.anyDisk(d.between(1, 4096), d.between(1, 300))
		used := m.used()
		d.mix(used)
		checkFree(t, len(m), used)
		if len(used) == 0 {
			continue
		}
		// One more, which is upon one of them, or beyond the disk.
		again := used[d.below(len(used))]
		checkRefused(t, len(m), append(slices.Clone(used), ex(again.At+d.below(again.Size), 1)), api.ErrOverlap)
		checkRefused(t, len(m), append(list(len(m), 1), used...), api.ErrSector)
		i := d.below(len(used))
		used[i] = ex(used[i].At, len(m)-used[i].At+1)
		checkRefused(t, len(m), used, api.ErrSector)
	}
}

func TestP17_1ManyExtents(t *testing.T) {
	var every, second []api.Extent
	for i := range 4096 {
		every = append(every, ex(4095-i, 1))
		if i%2 == 0 {
			second = append(second, ex(i, 1))
		}
	}
	checkSame(t, 4096, every, nil)
	checkRefused(t, 4096, append(slices.Clone(every), ex(4095, 1)), api.ErrOverlap)
	checkRefused(t, 4096, append(slices.Clone(every), ex(4096, 1)), api.ErrSector)
	free, e := room.Free(4096, second)
	if e != api.OK || len(free) != 2048 || free[0] != ex(1, 1) || free[2047] != ex(4095, 1) {
		t.Errorf("every second sector: %d free extents, %d", len(free), e)
	}
	checkFree(t, 4096, second)
	checkRefused(t, 4096, slices.Repeat(list(7, 1), 100000), api.ErrOverlap)
}

// TestP17_1Memory holds that Free keeps off what it was handed, and that what
// it tells is its own.
func TestP17_1Memory(t *testing.T) {
	for _, c := range []struct {
		sectors int
		used    []api.Extent
	}{{10, list(7, 1, 2, 3)}, {10, list(7, 1, 7, 1)}, {10, list(7, 1, 10, 1)}, {10, nil}, {0, list(7, 1, 2, 1)}, {10, list(9, 1, 0, 1, 5, 1, 3, 1)}} {
		before := append(slices.Clone(c.used), list(-5, -5, -6, -6, -7, -7, -8, -8)...)
		used := slices.Clone(before)
		first, _ := room.Free(c.sectors, used[:len(c.used)])
		first = slices.Clone(first)
		free, e := room.Free(c.sectors, used[:len(c.used)])
		overwrite(free)
		again, f := room.Free(c.sectors, used[:len(c.used)])
		if e != f || !slices.Equal(first, again) {
			t.Errorf("%v: another answer later on: %v, %v", c.used, first, again)
		}
		if !slices.Equal(used, before) {
			t.Errorf("what was handed in changed from %v to %v", before, used)
		}
		overwrite(used)
		if !slices.Equal(first, again) {
			t.Errorf("%v: what was told changed to %v", c.used, again)
		}
	}
}

// TestP17_1Capacity holds that an answer does not hang on spare capacity.
func TestP17_1Capacity(t *testing.T) {
	used := list(5, 1, 1, 1)
	for spare := range 20 {
		l := append(make([]api.Extent, 0, 2+spare), used...)
		t.Run(fmt.Sprint(spare), func(t *testing.T) { checkSame(t, 7, l, list(0, 1, 2, 3, 6, 1)) })
	}
}
