package room_test

import (
	"math"
	"slices"
	"testing"

	"clerestory/api"
	"clerestory/room"
)

// of is a map of a disk that is drawn.
func of(t *testing.T, text string) twin {
	t.Helper()
	m := drawn(text)
	return begin(t, len(m), m.used())
}

// is holds a map against a disk that is drawn.
func (w twin) is(t *testing.T, want string) {
	t.Helper()
	if got := w.model.String(); got != want {
		t.Errorf("the disk is %s; it must be %s", got, want)
	}
	if got := w.m.Free(); !slices.Equal(got, drawn(want).free()) {
		t.Errorf("Free is %v; it must be that of %s", got, want)
	}
}

// tookAs takes sectors, which must be the ones that the test says.
func (w twin) tookAs(t *testing.T, size int, want api.Extent, e api.Errno) {
	t.Helper()
	before := w.model.String()
	if got, f := w.take(t, size); got != want || f != e {
		t.Errorf("%s: Take(%d) is %v, %d; it must be %v, %d", before, size, got, f, want, e)
	}
}

// gaveAs gives sectors, with the error that the test says.
func (w twin) gaveAs(t *testing.T, e api.Extent, want api.Errno) {
	t.Helper()
	before := w.model.String()
	if got := w.give(t, e); got != want {
		t.Errorf("%s: Give(%v) is %d; it must be %d", before, e, got, want)
	}
}

func TestP17_2New(t *testing.T) {
	for _, c := range []struct {
		sectors   int
		used      []api.Extent
		free      []api.Extent
		left, end int
	}{
		{1, nil, list(0, 1), 1, 0}, {1, list(0, 1), nil, 0, 1}, {4096, nil, list(0, 4096), 4096, 0}, {4096, list(0, 4096), nil, 0, 4096},
		{10, list(0, 1), list(1, 9), 9, 1}, {10, list(9, 1), list(0, 9), 9, 10}, {10, list(8, 1), list(0, 8, 9, 1), 9, 9},
		{10, list(6, 1, 2, 1), list(0, 2, 3, 3, 7, 3), 8, 7}, {10, list(2, 3, 5, 2), list(0, 2, 7, 3), 5, 7}, {10, list(5, 5, 0, 5), nil, 0, 10},
	} {
		m, e := room.New(c.sectors, c.used)
		if e != api.OK || m == nil {
			t.Fatalf("New(%d, %v): %d", c.sectors, c.used, e)
		}
		if free := m.Free(); !slices.Equal(free, c.free) || m.Left() != c.left || m.End() != c.end {
			t.Errorf("New(%d, %v): %v, %d, %d; it must be %v, %d, %d", c.sectors, c.used, free, m.Left(), m.End(), c.free, c.left, c.end)
		}
	}
}

func TestP17_2NewRefused(t *testing.T) {
	checkRefused(t, 0, nil, api.ErrArg)
	checkRefused(t, -1, nil, api.ErrArg)
	checkRefused(t, 4097, nil, api.ErrArg)
	checkRefused(t, 10, list(3, 8), api.ErrSector)
	checkRefused(t, 10, list(3, 2, 4, 1), api.ErrOverlap)
	checkRefused(t, 10, list(3, 2, 4, 1, 0, 0), api.ErrSector)
	checkRefused(t, 0, list(3, 2, 4, 1, 0, 0), api.ErrArg)
}

func TestP17_2Take(t *testing.T) {
	w := of(t, "..#...#....##..")
	w.tookAs(t, 0, ex(0, 0), api.ErrArg)
	w.tookAs(t, -1, ex(0, 0), api.ErrArg)
	w.tookAs(t, math.MinInt, ex(0, 0), api.ErrArg)
	w.tookAs(t, 5, ex(0, 0), api.ErrNoSpace) // one more than the greatest has
	w.tookAs(t, 11, ex(0, 0), api.ErrNoSpace)
	w.tookAs(t, 16, ex(0, 0), api.ErrNoSpace) // more than the disk has
	w.tookAs(t, 4097, ex(0, 0), api.ErrNoSpace)
	w.tookAs(t, math.MaxInt, ex(0, 0), api.ErrNoSpace)
	w.is(t, "..#...#....##..")
	w.tookAs(t, 3, ex(3, 3), api.OK) // all of a later one
	w.is(t, "..#####....##..")
	w.tookAs(t, 1, ex(0, 1), api.OK)
	w.is(t, "#.#####....##..")
	w.tookAs(t, 2, ex(7, 2), api.OK) // not of the one that would just do
	w.is(t, "#.#######..##..")
	w.tookAs(t, 2, ex(9, 2), api.OK)
	w.is(t, "#.###########..")
	w.tookAs(t, 1, ex(1, 1), api.OK) // all of the first one
	w.is(t, "#############..")
	w.tookAs(t, 3, ex(0, 0), api.ErrNoSpace)
	w.tookAs(t, 2, ex(13, 2), api.OK)
	w.is(t, "###############")
	for _, size := range []int{1, 2, 15, math.MaxInt} {
		w.tookAs(t, size, ex(0, 0), api.ErrNoSpace)
	}
	w.tookAs(t, 0, ex(0, 0), api.ErrArg)
	w.tookAs(t, -5, ex(0, 0), api.ErrArg)
	w.is(t, "###############")
}

func TestP17_2TakeAll(t *testing.T) {
	for _, sectors := range []int{1, 2, 100, 4096} {
		w := begin(t, sectors, nil)
		w.tookAs(t, sectors+1, ex(0, 0), api.ErrNoSpace)
		w.tookAs(t, sectors, ex(0, sectors), api.OK)
		w.tookAs(t, 1, ex(0, 0), api.ErrNoSpace)
		w.gaveAs(t, ex(0, sectors), api.OK)
		w.tookAs(t, 1, ex(0, 1), api.OK)
	}
}

func TestP17_2Give(t *testing.T) {
	w := of(t, "..#####....#..##")
	w.gaveAs(t, ex(4, 1), api.OK) // of the middle of used sectors that were never taken
	w.is(t, "..##.##....#..##")
	w.gaveAs(t, ex(4, 1), api.ErrOverlap) // again
	w.gaveAs(t, ex(2, 1), api.OK)         // behind free ones
	w.is(t, "...#.##....#..##")
	w.gaveAs(t, ex(6, 1), api.OK) // ahead of free ones
	w.is(t, "...#.#.....#..##")
	w.gaveAs(t, ex(3, 1), api.OK) // between free ones
	w.is(t, ".....#.....#..##")
	w.gaveAs(t, ex(15, 1), api.OK) // the last one
	w.is(t, ".....#.....#..#.")
	w.gaveAs(t, ex(14, 1), api.OK)
	w.gaveAs(t, ex(11, 1), api.OK)
	w.gaveAs(t, ex(5, 1), api.OK)
	w.is(t, "................")
	w.gaveAs(t, ex(0, 1), api.ErrOverlap)
	w.gaveAs(t, ex(0, 16), api.ErrOverlap)
	w.gaveAs(t, ex(15, 1), api.ErrOverlap)
	w.gaveAs(t, ex(0, 17), api.ErrSector)
	w.is(t, "................")
}

func TestP17_2GiveRefused(t *testing.T) {
	w := of(t, ".##..###.#")
	for _, c := range []struct {
		at, size int
		e        api.Errno
	}{
		{0, 1, api.ErrOverlap}, {3, 1, api.ErrOverlap}, {3, 2, api.ErrOverlap}, {4, 1, api.ErrOverlap}, {8, 1, api.ErrOverlap}, // free in whole
		{0, 2, api.ErrOverlap}, {0, 3, api.ErrOverlap}, {4, 2, api.ErrOverlap}, {4, 4, api.ErrOverlap}, {8, 2, api.ErrOverlap}, // by one sector ahead
		{1, 3, api.ErrOverlap}, {2, 2, api.ErrOverlap}, {5, 4, api.ErrOverlap}, {7, 2, api.ErrOverlap}, // by one sector behind
		{0, 4, api.ErrOverlap}, {4, 5, api.ErrOverlap}, {1, 5, api.ErrOverlap}, {1, 7, api.ErrOverlap}, {5, 5, api.ErrOverlap}, {0, 10, api.ErrOverlap},
		{9, 2, api.ErrSector}, {10, 1, api.ErrSector}, {0, 11, api.ErrSector}, {-1, 1, api.ErrSector}, {1, 0, api.ErrSector}, {3, 0, api.ErrSector},
		{8, 3, api.ErrSector}, {-1, 2, api.ErrSector}, {4, 7, api.ErrSector}, {0, 0, api.ErrSector}, {10, 0, api.ErrSector}, {5, -1, api.ErrSector},
	} {
		w.gaveAs(t, ex(c.at, c.size), c.e)
		w.is(t, ".##..###.#")
	}
	for _, bad := range refusedExtents(10) {
		w.gaveAs(t, bad, api.ErrSector)
		of(t, "##########").gaveAs(t, bad, api.ErrSector)
		of(t, "..........").gaveAs(t, bad, api.ErrSector)
	}
	w.is(t, ".##..###.#")
}

func TestP17_2GiveWhatWasTaken(t *testing.T) {
	w := begin(t, 12, nil)
	w.tookAs(t, 4, ex(0, 4), api.OK)
	w.tookAs(t, 4, ex(4, 4), api.OK)
	w.gaveAs(t, ex(5, 2), api.OK) // a part of it
	w.is(t, "#####..#....")
	w.gaveAs(t, ex(4, 4), api.ErrOverlap)
	w.tookAs(t, 3, ex(8, 3), api.OK)
	w.gaveAs(t, ex(7, 2), api.OK) // parts of two
	w.is(t, "#####....##.")
	w.gaveAs(t, ex(0, 5), api.OK) // one and a part of another
	w.is(t, ".........##.")
	w.tookAs(t, 9, ex(0, 9), api.OK)
	w.gaveAs(t, ex(0, 11), api.OK)
	w.is(t, "............")
}

// TestP17_2EveryCall does each call on each small disk.
func TestP17_2EveryCall(t *testing.T) {
	everyDisk(7, func(m model) {
		n := len(m)
		for size := -1; size <= n+1; size++ {
			begin(t, n, m.used()).take(t, size)
		}
		w := begin(t, n, m.singles())
		for at := -1; at <= n+1; at++ {
			for size := -1; size <= n+1; size++ {
				w.copied().give(t, ex(at, size))
				w.assigned().give(t, ex(at, size))
			}
		}
		w.check(t, m.String())
	})
}

func TestP17_2End(t *testing.T) {
	for text, want := range map[string]int{
		".": 0, "#": 1, "..": 0, "#.": 1, ".#": 2, "##": 2, "#.#": 3, "#..": 1, ".#.": 2, "..#": 3, ".#.#.": 4, ".#.#..": 4, "..........": 0, "#.........": 1,
	} {
		if got := of(t, text).m.End(); got != want {
			t.Errorf("End of %s is %d; it must be %d", text, got, want)
		}
	}
	w := of(t, "#.#..#")
	w.gaveAs(t, ex(5, 1), api.OK)
	if w.m.End() != 3 {
		t.Error("End:", w.m.End())
	}
	w.gaveAs(t, ex(2, 1), api.OK)
	if w.m.End() != 1 {
		t.Error("End:", w.m.End())
	}
	w.gaveAs(t, ex(0, 1), api.OK)
	if w.m.End() != 0 {
		t.Error("End:", w.m.End())
	}
	w.tookAs(t, 6, ex(0, 6), api.OK)
	if w.m.End() != 6 {
		t.Error("End:", w.m.End())
	}
}

// checkApart has two maps go on, each by itself.
func checkApart(t *testing.T, a, b twin) {
	t.Helper()
	both := func() {
		t.Helper()
		a.check(t, "the one")
		b.check(t, "the other")
	}
	both()
	a.take(t, 1)
	both()
	b.take(t, 2)
	both()
	a.give(t, ex(6, 2))
	both()
	b.give(t, ex(0, 2))
	both()
	a.take(t, 3)
	b.take(t, 1)
	both()
	overwrite(a.m.Free())
	both()
	for range len(a.model) {
		a.take(t, 1)
	}
	both()
	for _, e := range b.model.used() {
		b.give(t, e)
	}
	both()
}

func TestP17_2Copy(t *testing.T) {
	for _, text := range []string{"......................", "##..#.##...#....#.....", "######################", "##########............", "##.#.#.#.#.#.#.#.#.#.#", "#.........##########.#"} {
		w := of(t, text)
		checkApart(t, w, w.copied())
		w = of(t, text)
		checkApart(t, w.copied(), w)
		w = of(t, text)
		checkApart(t, w.copied(), w.copied())
		w = of(t, text)
		checkApart(t, w.copied().copied(), w)
		w = of(t, text)
		checkApart(t, w, w.assigned())
		w = of(t, text)
		checkApart(t, w.assigned(), w)
		w = of(t, text)
		checkApart(t, w.assigned(), w.assigned().copied())
		checkApart(t, of(t, text), of(t, text))
	}
}

// TestP17_2CopyBehindCalls copies maps whose lists have spare capacity.
func TestP17_2CopyBehindCalls(t *testing.T) {
	for calls := range 30 {
		for _, other := range []func(twin) twin{twin.copied, twin.assigned} {
			d := dice(calls)
			w := of(t, "##..#.##...#....#.....##..#.##...#....#.....")
			for range calls {
				w.take(t, d.between(1, 3))
				w.give(t, ex(d.below(44), d.between(1, 2)))
			}
			checkApart(t, w, other(w))
			checkApart(t, other(w), w)
		}
	}
}

func TestP17_2CopyIsAnother(t *testing.T) {
	m, _ := room.New(3, nil)
	if c := m.Copy(); c == m || c == nil {
		t.Error("Copy: the map itself, or none")
	}
}

func TestP17_2Nil(t *testing.T) {
	var m *room.Map
	for _, size := range []int{math.MinInt, -1, 0, 1, 2, 4096, math.MaxInt} {
		if taken, e := m.Take(size); taken != ex(0, 0) || e != api.ErrArg {
			t.Errorf("Take(%d) of a nil Map is %v, %d", size, taken, e)
		}
	}
	for _, e := range append(refusedExtents(10), list(0, 1, 3, 4, 0, 4096)...) {
		if got := m.Give(e); got != api.ErrArg {
			t.Errorf("Give(%v) of a nil Map is %d", e, got)
		}
	}
	if l := m.Free(); len(l) != 0 {
		t.Error("Free of a nil Map:", l)
	}
	if m.Left() != 0 || m.End() != 0 || m.Copy() != nil {
		t.Error("a nil Map:", m.Left(), m.End(), m.Copy())
	}
}

// TestP17_2Memory holds that a map keeps off what it was made of, and that
// what it tells is its own.
func TestP17_2Memory(t *testing.T) {
	before := list(9, 1, 0, 2, 4, 1, -5, -5, -6, -6, -7, -7, -8, -8)
	used := slices.Clone(before)
	w := begin(t, 12, used[:3])
	if !slices.Equal(used, before) {
		t.Errorf("what was handed in changed from %v to %v", before, used)
	}
	overwrite(used)
	w.check(t, "behind the change of what was handed in")
	used = slices.Clone(used)
	told := w.m.Free()
	later := w.m.Free()
	overwrite(later)
	if !slices.Equal(told, list(2, 2, 5, 4, 10, 2)) {
		t.Error("what was told changed to", told)
	}
	for range 5 {
		w.take(t, 1)
	}
	w.give(t, ex(0, 1))
	if !slices.Equal(told, list(2, 2, 5, 4, 10, 2)) {
		t.Error("what was told changed to", told)
	}
	overwrite(told)
	w.check(t, "behind the change of what was told")
	copied := w.copied()
	overwrite(copied.m.Free())
	w.check(t, "behind the change of what a copy told")
	copied.check(t, "behind the change of what it told")
	if slices.ContainsFunc(used, func(e api.Extent) bool { return e != ex(-77, -77) }) {
		t.Error("what was handed in was written to:", used)
	}
}
