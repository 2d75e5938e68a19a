package room_test

import (
	"fmt"
	"slices"
	"strings"
	"testing"

	"clerestory/api"
	"clerestory/room"
)

// dice is a source of numbers that are the same in every run.
type dice uint64

// below is the next number, less than n.
func (d *dice) below(n int) int {
	*d = *d*6364136223846793005 + 1442695040888963407
	return int(uint64(*d)>>33) % n
}

// between is the next number, from one to another.
func (d *dice) between(from, to int) int { return from + d.below(to-from+1) }

// mix puts extents into another order.
func (d *dice) mix(l []api.Extent) {
	for i := range l {
		k := d.below(i + 1)
		l[i], l[k] = l[k], l[i]
	}
}

// ex is an extent.
func ex(at, size int) api.Extent { return api.Extent{At: at, Size: size} }

// list is extents of beginnings and sizes in turn.
func list(numbers ...int) (l []api.Extent) {
	for i := 0; i < len(numbers); i += 2 {
		l = append(l, ex(numbers[i], numbers[i+1]))
	}
	return l
}

// overwrite writes over extents, and what spare capacity they have.
func overwrite(l []api.Extent) {
	l = l[:cap(l)]
	for i := range l {
		l[i] = ex(-77, -77)
	}
}

// model is a disk, sector by sector: which of them are used.
type model []bool

// fits tells whether an extent is valid on a disk of so many sectors. It is
// worked out without a sign, where no sum of two such numbers wraps round.
func fits(sectors int, e api.Extent) bool {
	return e.At >= 0 && e.Size > 0 && uint64(e.At)+uint64(e.Size) <= uint64(sectors)
}

// modelOf is a disk some extents of which are used, or why there is none.
func modelOf(sectors int, used []api.Extent) (model, api.Errno) {
	if sectors <= 0 || sectors >= 4097 {
		return nil, api.ErrArg
	}
	for _, e := range used {
		if !fits(sectors, e) {
			return nil, api.ErrSector
		}
	}
	m := make(model, sectors)
	for _, e := range used {
		for i := range e.Size {
			if m[e.At+i] {
				return nil, api.ErrOverlap
			}
			m[e.At+i] = true
		}
	}
	return m, api.OK
}

// drawn is a disk as it is drawn: a dot for each free sector.
func drawn(text string) model {
	m := make(model, len(text))
	for i, c := range text {
		m[i] = c != '.'
	}
	return m
}

// String draws a disk.
func (m model) String() string {
	var b strings.Builder
	for _, used := range m {
		if used {
			b.WriteByte('#')
		} else {
			b.WriteByte('.')
		}
	}
	return b.String()
}

// isFree tells whether a sector is on the disk, and free.
func (m model) isFree(i int) bool { return i >= 0 && i < len(m) && !m[i] }

// isUsed tells whether a sector is on the disk, and used.
func (m model) isUsed(i int) bool { return i >= 0 && i < len(m) && m[i] }

// runs is the greatest extents whose sectors are such: each begins with one
// that is behind another kind of sector, or behind none.
func runs(m model, is func(i int) bool) (l []api.Extent) {
	for i := range m {
		if is(i) && !is(i-1) {
			l = append(l, ex(i, 0))
		}
		if is(i) {
			l[len(l)-1].Size++
		}
	}
	return l
}

// free is the free extents.
func (m model) free() []api.Extent { return runs(m, m.isFree) }

// used is the used sectors, as few extents as they are.
func (m model) used() []api.Extent { return runs(m, m.isUsed) }

// singles is the used sectors, each an extent of its own.
func (m model) singles() (l []api.Extent) {
	for i := range m {
		if m[i] {
			l = append(l, ex(i, 1))
		}
	}
	return l
}

// left is how many sectors are free.
func (m model) left() (n int) {
	for i := range m {
		if !m[i] {
			n++
		}
	}
	return n
}

// end is the place behind the last used sector.
func (m model) end() (n int) {
	for i := range m {
		if m[i] {
			n = i + 1
		}
	}
	return n
}

// take takes sectors: it tries each place from the first one on.
func (m model) take(size int) (api.Extent, api.Errno) {
	if size <= 0 {
		return ex(0, 0), api.ErrArg
	}
	for at := 0; at < len(m) && size <= len(m)-at; at++ {
		if !slices.Contains(m[at:at+size], true) {
			m.set(ex(at, size), true)
			return ex(at, size), api.OK
		}
	}
	return ex(0, 0), api.ErrNoSpace
}

// give makes sectors free.
func (m model) give(e api.Extent) api.Errno {
	if !fits(len(m), e) {
		return api.ErrSector
	}
	if slices.Contains(m[e.At:e.At+e.Size], false) {
		return api.ErrOverlap
	}
	m.set(e, false)
	return api.OK
}

// set makes the sectors of an extent used, or free.
func (m model) set(e api.Extent, used bool) {
	for i := range e.Size {
		m[e.At+i] = used
	}
}

// twin is a map, and a model that must tell the same.
type twin struct {
	m     *room.Map
	model model
}

// begin is a map of a disk, with its model; what the map tells is checked.
func begin(t *testing.T, sectors int, used []api.Extent) twin {
	t.Helper()
	model, want := modelOf(sectors, used)
	m, e := room.New(sectors, used)
	if want != api.OK || e != api.OK || m == nil {
		t.Fatalf("New(%d, %v): %d; it must be %d", sectors, used, e, want)
	}
	w := twin{m: m, model: model}
	w.check(t, fmt.Sprintf("New(%d, %v)", sectors, used))
	return w
}

// copied is a copy of the map, with a model of its own.
func (w twin) copied() twin { return twin{m: w.m.Copy(), model: slices.Clone(w.model)} }

// assigned is a struct that the map was assigned to, with a model of its own.
func (w twin) assigned() twin {
	m := *w.m
	return twin{m: &m, model: slices.Clone(w.model)}
}

// check holds all that the map tells against the model, and writes over it.
func (w twin) check(t *testing.T, what string) {
	t.Helper()
	for range 2 {
		free := w.m.Free()
		if !slices.Equal(free, w.model.free()) {
			t.Errorf("%s: Free is %v; it must be %v", what, free, w.model.free())
		}
		overwrite(free)
	}
	if n := w.m.Left(); n != w.model.left() {
		t.Errorf("%s: Left is %d; it must be %d", what, n, w.model.left())
	}
	if n := w.m.End(); n != w.model.end() {
		t.Errorf("%s: End is %d; it must be %d", what, n, w.model.end())
	}
}

// take takes sectors of both.
func (w twin) take(t *testing.T, size int) (api.Extent, api.Errno) {
	t.Helper()
	before := w.model.String()
	got, e := w.m.Take(size)
	want, f := w.model.take(size)
	if got != want || e != f {
		t.Errorf("%s: Take(%d) is %v, %d; it must be %v, %d", before, size, got, e, want, f)
	}
	w.check(t, fmt.Sprintf("%s: Take(%d)", before, size))
	return want, f
}

// give gives sectors to both.
func (w twin) give(t *testing.T, e api.Extent) api.Errno {
	t.Helper()
	before := w.model.String()
	got, want := w.m.Give(e), w.model.give(e)
	if got != want {
		t.Errorf("%s: Give(%v) is %d; it must be %d", before, e, got, want)
	}
	w.check(t, fmt.Sprintf("%s: Give(%v)", before, e))
	return want
}

// everyDisk runs a test for each disk of up to so many sectors.
func everyDisk(most int, test func(m model)) {
	for sectors := 1; sectors <= most; sectors++ {
		for bits := range 1 << sectors {
			m := make(model, sectors)
			for i := range m {
				m[i] = bits>>i&1 == 1
			}
			test(m)
		}
	}
}

// anyDisk is a disk with used and free extents of up to so many sectors in
// turn.
func (d *dice) anyDisk(sectors, most int) model {
	m := make(model, sectors)
	used := d.below(2) == 0
	for at := 0; at < sectors; used = !used {
		size := min(d.between(1, most), sectors-at)
		m.set(ex(at, size), used)
		at += size
	}
	return m
}
