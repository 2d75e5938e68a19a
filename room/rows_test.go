package room_test

import (
	"slices"
	"testing"

	"clerestory/api"
)

// checkTaken holds that what was taken was free, is not free any more, that
// nothing else changed, and that no free extent that has as many sectors starts
// before it.
func checkTaken(t *testing.T, size int, taken api.Extent, before, after []api.Extent) {
	t.Helper()
	isIn := func(l []api.Extent, i int) bool {
		return slices.ContainsFunc(l, func(f api.Extent) bool { return i >= f.At && i < f.At+f.Size })
	}
	if taken.Size != size {
		t.Errorf("Take(%d) is %v", size, taken)
	}
	for i := range 200 {
		mine := i >= taken.At && i < taken.At+taken.Size
		if mine && !isIn(before, i) {
			t.Errorf("%v was taken of %v: sector %d was not free", taken, before, i)
		}
		if isIn(after, i) != (isIn(before, i) && !mine) {
			t.Errorf("%v was taken of %v: %v is free, which must not be so of sector %d", taken, before, after, i)
		}
	}
	for _, f := range before {
		if f.Size >= size && f.At < taken.At {
			t.Errorf("%v was taken of %v: it must be the beginning of %v", taken, before, f)
			break
		}
	}
}

func TestP17_3(t *testing.T) {
	d := dice(173)
	for range 400 {
		m := d.anyDisk(d.between(1, 200), d.between(1, 40))
		for size := 1; size <= 41; size++ {
			w := begin(t, len(m), m.used())
			before := w.m.Free()
			taken, e := w.m.Take(size)
			greatest := 0
			for _, f := range before {
				greatest = max(greatest, f.Size)
			}
			switch {
			case size > greatest:
				if e != api.ErrNoSpace || taken != ex(0, 0) || !slices.Equal(w.m.Free(), before) {
					t.Errorf("%v: Take(%d) is %v, %d", m, size, taken, e)
				}
			case e != api.OK:
				t.Errorf("%v: Take(%d) is %d", m, size, e)
			default:
				checkTaken(t, size, taken, before, w.m.Free())
			}
		}
	}
}

func TestP17_3OneBehindTheOther(t *testing.T) {
	d := dice(1731)
	for range 100 {
		m := d.anyDisk(200, d.between(1, 60))
		w := begin(t, len(m), m.used())
		var all []api.Extent
		for range 100 {
			before := w.m.Free()
			size := d.between(1, 10)
			taken, e := w.take(t, size)
			if e == api.OK {
				checkTaken(t, size, taken, before, w.m.Free())
				all = append(all, taken)
			}
		}
		// What was used, and all that was taken, have no sector in common.
		if free, e := modelOf(len(m), append(all, m.used()...)); e != api.OK || !slices.Equal(free, w.model) {
			t.Errorf("%v: %v were taken: %d", m, all, e)
		}
	}
}

func TestP17_4EveryDisk(t *testing.T) {
	everyDisk(9, func(m model) {
		for size := 1; size <= len(m); size++ {
			w := begin(t, len(m), m.used())
			if taken, e := w.take(t, size); e == api.OK {
				w.gaveAs(t, taken, api.OK)
			}
			w.is(t, m.String())
		}
	})
}

// TestP17_4AnyOrder gives back in the order of taking, in the other one, and in
// any.
func TestP17_4AnyOrder(t *testing.T) {
	d := dice(174)
	orders := []func(l []api.Extent){func([]api.Extent) {}, slices.Reverse[[]api.Extent], d.mix, d.mix, d.mix}
	for range 100 {
		m := d.anyDisk(d.between(1, 300), d.between(1, 80))
		for _, order := range orders {
			w := begin(t, len(m), m.used())
			var all []api.Extent
			for range d.between(1, 40) {
				if taken, e := w.take(t, d.between(1, 12)); e == api.OK {
					all = append(all, taken)
				}
			}
			order(all)
			for _, e := range all {
				w.gaveAs(t, e, api.OK)
			}
			w.is(t, m.String())
		}
	}
}

// TestP17_4InParts gives back in parts, of one sector and of more.
func TestP17_4InParts(t *testing.T) {
	d := dice(1741)
	for range 100 {
		m := d.anyDisk(100, d.between(1, 50))
		w := begin(t, len(m), m.used())
		var parts []api.Extent
		for range 5 {
			taken, e := w.take(t, d.between(1, 15))
			for e == api.OK && taken.Size > 0 {
				size := d.between(1, taken.Size)
				parts = append(parts, ex(taken.At, size))
				taken = ex(taken.At+size, taken.Size-size)
			}
		}
		d.mix(parts)
		for _, e := range parts {
			w.gaveAs(t, e, api.OK)
		}
		w.is(t, m.String())
	}
}

// step does any call on one of some maps.
func (d *dice) step(t *testing.T, l []twin) []twin {
	t.Helper()
	w := l[d.below(len(l))]
	n := len(w.model)
	switch d.below(12) {
	case 0, 1, 2, 3:
		w.take(t, d.between(-1, 12))
	case 4:
		w.take(t, d.between(1, n+1))
	case 5, 6:
		w.give(t, ex(d.between(-2, n+1), d.between(-1, 8)))
	case 7, 8, 9:
		if used := w.model.used(); len(used) > 0 {
			e := used[d.below(len(used))]
			from := d.below(e.Size)
			w.give(t, ex(e.At+from, d.between(1, e.Size-from)))
		}
	case 10:
		if len(l) < 6 {
			return append(l, w.copied())
		}
		l[d.below(len(l))] = w.copied()
	case 11:
		l[d.below(len(l))] = w.assigned()
	}
	return l
}

// TestRows does calls in any row on maps, their copies, and the copies of
// these.
func TestRows(t *testing.T) {
	d := dice(17)
	for range 60 {
		m := d.anyDisk(d.between(1, 150), d.between(1, 50))
		l := []twin{begin(t, len(m), m.used())}
		for range 150 {
			l = d.step(t, l)
			for _, w := range l {
				w.check(t, "one of the maps")
			}
		}
	}
}

func TestRowsOfAGreatDisk(t *testing.T) {
	d := dice(4096)
	l := []twin{begin(t, 4096, nil)}
	for range 600 {
		l = d.step(t, l)
	}
	for _, w := range l {
		w.check(t, "one of the maps")
	}
}

// TestWithoutRoom has a map of as many free extents as there can be.
func TestWithoutRoom(t *testing.T) {
	w := begin(t, 4096, nil)
	w.tookAs(t, 4096, ex(0, 4096), api.OK)
	for i := 0; i < 4096; i += 2 {
		if e := w.m.Give(ex(i, 1)); e != api.OK {
			t.Fatal("Give", i, e)
		}
		w.model.set(ex(i, 1), false)
	}
	w.tookAs(t, 2, ex(0, 0), api.ErrNoSpace)
	w.gaveAs(t, ex(0, 2), api.ErrOverlap)
	w.gaveAs(t, ex(4095, 1), api.OK)
	w.tookAs(t, 2, ex(4094, 2), api.OK)
	for i := 1; i < 4096; i += 2 {
		w.m.Give(ex(i, 1))
	}
	w.m.Give(ex(4094, 1))
	if !slices.Equal(w.m.Free(), list(0, 4096)) || w.m.Left() != 4096 || w.m.End() != 0 {
		t.Error("all is free:", w.m.Free(), w.m.Left(), w.m.End())
	}
}
