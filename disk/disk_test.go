package disk_test

import (
	"bytes"
	"math"
	"slices"
	"testing"

	"clerestory/api"
	"clerestory/disk"
)

const all = ^uint64(0)

// text is some bytes, others for another seed.
func text(n, seed int) []byte {
	b := make([]byte, n)
	x := uint32(seed)*2654435761 + 12345
	for i := range b {
		x = x*1664525 + 1013904223
		b[i] = byte(x >> 24)
	}
	return b
}

// sector is a sector's bytes, others for another seed.
func sector(seed int) []byte { return text(api.Sector, seed) }

// zeros is a sector's bytes at first.
func zeros() []byte { return make([]byte, api.Sector) }

// overwrite writes over some bytes and what spare capacity they have.
func overwrite(b []byte) {
	b = b[:cap(b)]
	for i := range b {
		b[i] = 0xaa
	}
}

// wants holds what a disk tells against what it should hold.
func wants(t *testing.T, what string, d *disk.Disk, b []byte, pending int, dead bool) {
	t.Helper()
	if n := d.Sectors(); n != len(b)/api.Sector {
		t.Error(what, "Sectors:", n)
	}
	if !bytes.Equal(d.Bytes(), b) {
		t.Error(what, "Bytes: other than they should be")
	}
	if d.Pending() != pending || d.Dead() != dead {
		t.Error(what, "Pending, Dead:", d.Pending(), d.Dead())
	}
	for i := range len(b) / api.Sector {
		got, e := d.Read(i)
		if dead && (len(got) != 0 || e != api.ErrCrash) {
			t.Error(what, "Read", i, "of a dead disk:", got, e)
		}
		if !dead && (!bytes.Equal(got, b[i*api.Sector:(i+1)*api.Sector]) || e != api.OK) {
			t.Error(what, "Read", i, got, e)
		}
	}
}

// write writes a sector, which must be possible.
func write(t *testing.T, d *disk.Disk, i int, b []byte) {
	t.Helper()
	if e := d.Write(i, b); e != api.OK {
		t.Error("Write", i, e)
	}
}

// sync syncs, which must be possible.
func sync(t *testing.T, d *disk.Disk) {
	t.Helper()
	if e := d.Sync(); e != api.OK {
		t.Error("Sync", e)
	}
}

// join is sectors one behind the other.
func join(l ...[]byte) []byte { return bytes.Join(l, nil) }

// noFuse holds that a disk does many calls, and leaves it as it is but synced.
func noFuse(t *testing.T, what string, d *disk.Disk) {
	t.Helper()
	b, e := d.Read(0)
	for range 100 {
		if f := d.Write(0, b); f != api.OK || e != api.OK {
			t.Fatal(what, "there is a fuse:", e, f)
		}
	}
	sync(t, d)
}

func TestExample1(t *testing.T) {
	d := disk.New(1)
	a, b := sector(1), sector(2)
	write(t, d, 0, a)
	write(t, d, 0, b)
	d.Crash(1)
	d.Revive()
	wants(t, "example", d, a, 0, false)
}

func TestP3_1NewBeyondItsBounds(t *testing.T) {
	for _, n := range []int{0, -1, -128, math.MinInt, 4097, 1 << 19, 1 << 32, 1<<32 + 1, math.MaxInt} {
		if d := disk.New(n); d != nil {
			t.Error(n, "a disk")
		}
	}
}

func TestP3_1NewWithinItsBounds(t *testing.T) {
	for _, n := range []int{1, 2, 3, 128, 4095, 4096} {
		d := disk.New(n)
		if d == nil {
			t.Fatal(n, "no disk")
		}
		wants(t, "new", d, make([]byte, n*128), 0, false)
		noFuse(t, "new", d)
		write(t, d, n-1, sector(3))
		if e := d.Write(n, sector(3)); e != api.ErrSector {
			t.Error(n, "one sector too many:", e)
		}
	}
}

func TestP3_1OfBeyondItsBounds(t *testing.T) {
	for i, b := range [][]byte{nil, {}, make([]byte, 0, 200), make([]byte, 1<<19+1), make([]byte, 1<<20)} {
		if d := disk.Of(b); d != nil {
			t.Error(i, "a disk")
		}
	}
}

func TestP3_1OfWithinItsBounds(t *testing.T) {
	for _, n := range []int{1, 2, 127, 128, 129, 255, 256, 257, 1000, 1<<19 - 128, 1<<19 - 127, 1<<19 - 1, 1 << 19} {
		b := text(n, n)
		want := append(slices.Clone(b), make([]byte, (128-n%128)%128)...)
		d := disk.Of(b)
		if d == nil {
			t.Fatal(n, "no disk")
		}
		wants(t, "of", d, want, 0, false)
		noFuse(t, "of", d)
		d.Crash(0)
		wants(t, "of, crashed", d, want, 0, true)
	}
}

func TestP3_1OfTakesWhatItIsGivenAndNoMore(t *testing.T) {
	whole := bytes.Repeat([]byte{7}, 300)
	d := disk.Of(whole[:130])
	want := append(bytes.Repeat([]byte{7}, 130), make([]byte, 126)...)
	wants(t, "cut", d, want, 0, false)
	write(t, d, 0, sector(1))
	if !bytes.Equal(whole, bytes.Repeat([]byte{7}, 300)) {
		t.Error("the argument was changed")
	}
	d.Crash(0)
	d.Revive()
	overwrite(whole)
	wants(t, "overwritten", d, want, 0, false)
}

func TestP3_1ReadAndWrite(t *testing.T) {
	d := disk.New(3)
	a, b, c := sector(1), sector(2), sector(3)
	write(t, d, 1, a)
	wants(t, "one", d, join(zeros(), a, zeros()), 1, false)
	write(t, d, 2, b)
	wants(t, "two", d, join(zeros(), a, b), 2, false)
	write(t, d, 1, c)
	wants(t, "again", d, join(zeros(), c, b), 3, false)
	sync(t, d)
	wants(t, "synced", d, join(zeros(), c, b), 0, false)
	write(t, d, 0, a)
	write(t, d, 1, zeros())
	wants(t, "one upon a synced one", d, join(a, zeros(), b), 2, false)
	write(t, d, 0, a)
	wants(t, "the same again", d, join(a, zeros(), b), 3, false)
	sync(t, d)
	sync(t, d)
	wants(t, "synced twice", d, join(a, zeros(), b), 0, false)
}

func TestP3_1SectorsThatAreNotThere(t *testing.T) {
	for _, n := range []int{1, 3, 4096} {
		d := disk.New(n)
		for _, i := range []int{-1, n, n + 1, -n, -128, 5000, 1 << 32, -1 << 32, math.MinInt, math.MaxInt} {
			if b, e := d.Read(i); len(b) != 0 || e != api.ErrSector {
				t.Error(n, "Read", i, b, e)
			}
			for _, l := range []int{0, 127, 128, 129} {
				if e := d.Write(i, make([]byte, l)); e != api.ErrSector {
					t.Error(n, "Write", i, l, e)
				}
			}
		}
		wants(t, "refused", d, make([]byte, n*128), 0, false)
	}
}

func TestP3_1WritesThatAreNoSectors(t *testing.T) {
	d := disk.New(2)
	write(t, d, 0, sector(1))
	for _, n := range []int{0, 1, 64, 127, 129, 130, 255, 256, 4096} {
		if e := d.Write(1, make([]byte, n, 5000)); e != api.ErrArg {
			t.Error(n, e)
		}
	}
	if e := d.Write(1, nil); e != api.ErrArg {
		t.Error("nil:", e)
	}
	wants(t, "refused", d, join(sector(1), zeros()), 1, false)
}

func TestP3_1CallsOfADeadDisk(t *testing.T) {
	d := disk.New(2)
	write(t, d, 1, sector(4))
	d.Crash(all)
	want := join(zeros(), sector(4))
	for _, i := range []int{0, 1, -1, 2, math.MaxInt, math.MinInt} {
		if b, e := d.Read(i); len(b) != 0 || e != api.ErrCrash {
			t.Error("Read", i, b, e)
		}
		for _, n := range []int{0, 128, 129} {
			if e := d.Write(i, make([]byte, n)); e != api.ErrCrash {
				t.Error("Write", i, n, e)
			}
		}
	}
	if e := d.Sync(); e != api.ErrCrash {
		t.Error("Sync", e)
	}
	wants(t, "dead", d, want, 0, true)
	d.Revive()
	wants(t, "revived", d, want, 0, false)
	write(t, d, 0, sector(5))
	sync(t, d)
	wants(t, "written again", d, join(sector(5), sector(4)), 0, false)
}

func TestP3_1WhatIsWrittenIsACopy(t *testing.T) {
	d := disk.New(1)
	whole := append(sector(1), sector(2)...)
	before := slices.Clone(whole)
	write(t, d, 0, whole[:128])
	if !bytes.Equal(whole, before) {
		t.Error("the argument was changed")
	}
	overwrite(whole)
	wants(t, "pending", d, sector(1), 1, false)
	sync(t, d)
	wants(t, "synced", d, sector(1), 0, false)
	b := sector(3)
	write(t, d, 0, b)
	sync(t, d)
	overwrite(b)
	wants(t, "synced, then overwritten", d, sector(3), 0, false)
}

func TestP3_1WhatIsReadIsACopy(t *testing.T) {
	d := disk.Of(join(sector(1), sector(2), zeros()))
	for _, pending := range []bool{true, false} {
		write(t, d, 1, sector(3))
		if !pending {
			sync(t, d)
		}
		want := join(sector(1), sector(3), zeros())
		for i := range 3 {
			a, _ := d.Read(i)
			b, _ := d.Read(i)
			overwrite(a)
			if !bytes.Equal(b, want[i*128:(i+1)*128]) {
				t.Error(i, "two results share memory")
			}
		}
		wants(t, "overwritten", d, want, d.Pending(), false)
		a, b := d.Bytes(), d.Bytes()
		overwrite(a)
		if !bytes.Equal(b, want) {
			t.Error("Bytes: two results share memory")
		}
		wants(t, "overwritten", d, want, d.Pending(), false)
	}
}

func TestP3_1SectorsThatWereNeverWritten(t *testing.T) {
	d := disk.New(2)
	a, _ := d.Read(1)
	overwrite(a)
	overwrite(d.Bytes())
	wants(t, "overwritten", d, make([]byte, 256), 0, false)
	wants(t, "another disk", disk.New(2), make([]byte, 256), 0, false)
}

func TestP3_1ManyPendingWrites(t *testing.T) {
	const n = 50000
	d := disk.New(4096)
	for i := range n {
		write(t, d, i%7, sector(i))
	}
	want := make([]byte, api.MaxBytes)
	for i := n - 7; i < n; i++ {
		copy(want[i%7*128:], sector(i))
	}
	if d.Pending() != n || !bytes.Equal(d.Bytes(), want) {
		t.Error("pending:", d.Pending())
	}
	sync(t, d)
	wants(t, "synced", d, want, 0, false)
}

func TestP3_2Pending(t *testing.T) {
	d := disk.New(3)
	for i := range 200 {
		if d.Pending() != i {
			t.Error(i, d.Pending())
		}
		write(t, d, i%2, sector(i%5))
	}
	d.Write(3, sector(1))
	d.Write(0, nil)
	if d.Pending() != 200 {
		t.Error("a refused write is pending:", d.Pending())
	}
	sync(t, d)
	if d.Pending() != 0 {
		t.Error("synced:", d.Pending())
	}
	for _, keep := range []uint64{0, 2, all} {
		write(t, d, 0, sector(1))
		write(t, d, 1, sector(1))
		d.Crash(keep)
		if d.Pending() != 0 {
			t.Error(keep, "crashed:", d.Pending())
		}
		d.Revive()
		if d.Pending() != 0 {
			t.Error(keep, "revived:", d.Pending())
		}
	}
}

func TestP3_2FuseCountsWrites(t *testing.T) {
	for calls := range 70 {
		for _, keep := range []uint64{0, 1, 1 << 63, 0x5555555555555555, all} {
			d := disk.New(1)
			d.Fuse(calls, keep)
			want := zeros()
			for i := range calls {
				write(t, d, 0, sector(i))
				if keep>>(i%64)&1 == 1 {
					want = sector(i)
				}
			}
			if d.Dead() || d.Pending() != calls {
				t.Error(calls, keep, "burnt too early")
			}
			if e := d.Write(0, sector(1000)); e != api.ErrCrash {
				t.Error(calls, keep, e)
			}
			wants(t, "burnt", d, want, 0, true)
			d.Revive()
			wants(t, "revived", d, want, 0, false)
			noFuse(t, "revived", d)
		}
	}
}

func TestP3_2FuseCountsSyncs(t *testing.T) {
	for calls := range 6 {
		d := disk.New(1)
		d.Fuse(calls, 0)
		for range calls {
			sync(t, d)
		}
		if e := d.Sync(); e != api.ErrCrash || !d.Dead() {
			t.Error(calls, e, d.Dead())
		}
		d.Revive()
		noFuse(t, "revived", d)
	}
	for keep := range uint64(8) {
		d := disk.Of(join(sector(8), sector(9)))
		d.Fuse(3, keep)
		write(t, d, 0, sector(0))
		sync(t, d)
		write(t, d, 1, sector(1))
		if e := d.Sync(); e != api.ErrCrash {
			t.Error(keep, e)
		}
		want := join(sector(0), sector(9))
		if keep&1 == 1 {
			want = join(sector(0), sector(1))
		}
		wants(t, "burnt", d, want, 0, true)
	}
}

func TestP3_2FuseCountsNothingElse(t *testing.T) {
	d := disk.New(2)
	d.Fuse(2, all)
	for range 10 {
		d.Read(0)
		d.Read(2)
		d.Sectors()
		d.Pending()
		d.Dead()
		d.Revive()
		d.Bytes()
		d.Copy()
		d.Write(2, sector(1))
		d.Write(-1, nil)
		d.Write(0, sector(1)[:127])
	}
	write(t, d, 0, sector(1))
	write(t, d, 1, sector(2))
	d.Write(2, sector(3))
	d.Write(0, nil)
	if d.Dead() || d.Pending() != 2 {
		t.Error("burnt too early")
	}
	if e := d.Write(0, sector(3)); e != api.ErrCrash {
		t.Error(e)
	}
	wants(t, "burnt", d, join(sector(1), sector(2)), 0, true)
}

func TestP3_2RefusedCallsOfABurntFuse(t *testing.T) {
	d := disk.New(1)
	d.Fuse(0, 0)
	if e := d.Write(1, sector(1)); e != api.ErrSector {
		t.Error(e)
	}
	if e := d.Write(0, nil); e != api.ErrArg {
		t.Error(e)
	}
	wants(t, "not burnt", d, zeros(), 0, false)
	if e := d.Write(0, sector(1)); e != api.ErrCrash {
		t.Error(e)
	}
	wants(t, "burnt", d, zeros(), 0, true)
}

func TestP3_2FuseUponAnother(t *testing.T) {
	for _, calls := range []int{-1, -2, -64, math.MinInt} {
		d := disk.New(1)
		d.Fuse(calls, all)
		noFuse(t, "never a fuse", d)
		d.Fuse(0, all)
		d.Fuse(calls, all)
		noFuse(t, "no fuse any more", d)
	}
	d := disk.New(1)
	d.Fuse(0, 0)
	d.Fuse(1, all)
	write(t, d, 0, sector(1))
	d.Fuse(1, 2)
	write(t, d, 0, sector(2))
	if e := d.Sync(); e != api.ErrCrash {
		t.Error(e)
	}
	wants(t, "the last fuse", d, sector(2), 0, true)
	d.Revive()
	d.Fuse(math.MaxInt, 0)
	noFuse(t, "a long fuse", d)
}

func TestP3_2ACrashTakesTheFuse(t *testing.T) {
	d := disk.New(1)
	d.Fuse(0, all)
	d.Crash(0)
	d.Revive()
	noFuse(t, "crashed", d)
}

func TestP3_2FuseOfADeadDisk(t *testing.T) {
	d := disk.New(1)
	d.Crash(0)
	d.Fuse(1, 1)
	for range 5 {
		d.Crash(0)
		if e := d.Write(0, sector(1)); e != api.ErrCrash {
			t.Error(e)
		}
		if e := d.Sync(); e != api.ErrCrash {
			t.Error(e)
		}
	}
	d.Revive()
	write(t, d, 0, sector(1))
	if e := d.Write(0, sector(2)); e != api.ErrCrash {
		t.Error(e)
	}
	wants(t, "burnt", d, sector(1), 0, true)
}

func TestP3_2CrashDeadRevive(t *testing.T) {
	d := disk.New(1)
	d.Revive()
	wants(t, "revived alive", d, zeros(), 0, false)
	write(t, d, 0, sector(1))
	d.Revive()
	wants(t, "revived alive, written", d, sector(1), 1, false)
	d.Crash(1)
	wants(t, "crashed", d, sector(1), 0, true)
	for _, keep := range []uint64{0, 1, all} {
		d.Crash(keep)
		wants(t, "crashed again", d, sector(1), 0, true)
	}
	d.Revive()
	wants(t, "revived", d, sector(1), 0, false)
	d.Revive()
	wants(t, "revived again", d, sector(1), 0, false)
	d.Crash(all)
	wants(t, "crashed with nothing pending", d, sector(1), 0, true)
}

func TestP3_2CopyIsJustSo(t *testing.T) {
	d := disk.Of(join(sector(1), sector(2)))
	write(t, d, 0, sector(3))
	write(t, d, 1, sector(4))
	d.Fuse(1, 2)
	e := d.Copy()
	wants(t, "copy", e, join(sector(3), sector(4)), 2, false)
	for _, x := range []*disk.Disk{e, d} {
		write(t, x, 0, sector(5))
		if f := x.Sync(); f != api.ErrCrash {
			t.Error(f)
		}
		wants(t, "burnt", x, join(sector(1), sector(4)), 0, true)
	}
	f := d.Copy()
	wants(t, "copy of a dead disk", f, join(sector(1), sector(4)), 0, true)
	f.Revive()
	noFuse(t, "copy", f)
	wants(t, "the dead disk", d, join(sector(1), sector(4)), 0, true)
}

// divided writes to a disk and to a copy of it in turn: neither may show what
// the other one wrote.
func divided(t *testing.T, what string, d, e *disk.Disk) {
	t.Helper()
	first, second, pending := d.Bytes(), e.Bytes(), d.Pending()
	for i := range 10 {
		write(t, d, i%2, sector(10+i))
		copy(first[i%2*128:], sector(10+i))
		wants(t, what+": the copy", e, second, pending+i, false)
		write(t, e, (i+1)%2, sector(20+i))
		copy(second[(i+1)%2*128:], sector(20+i))
		wants(t, what+": the disk", d, first, pending+i+1, false)
	}
	sync(t, d)
	wants(t, what+": the disk, synced", d, first, 0, false)
	wants(t, what+": the copy of a synced one", e, second, pending+10, false)
	write(t, d, 0, sector(30))
	e.Crash(all)
	wants(t, what+": the copy, crashed", e, second, 0, true)
	d.Crash(0)
	d.Revive()
	wants(t, what+": the disk, revived", d, first, 0, false)
	wants(t, what+": the copy of a revived one", e, second, 0, true)
}

func TestP3_2CopyIsIndependent(t *testing.T) {
	for pending := range 20 {
		made := func() *disk.Disk {
			d := disk.Of(join(sector(1), sector(2)))
			for i := range pending {
				write(t, d, i%2, sector(3+i))
			}
			return d
		}
		d := made()
		divided(t, "Copy", d, d.Copy())
		d = made()
		divided(t, "Copy, turned", d.Copy(), d)
		d = made()
		e := *d
		divided(t, "assigned", d, &e)
		d = made()
		e = *d
		divided(t, "assigned, turned", &e, d)
		d = made()
		divided(t, "two copies", d.Copy(), d.Copy())
	}
}

func TestP3_2CopyAtTheSameTime(t *testing.T) {
	d := disk.New(2)
	for i := range 5 {
		write(t, d, 0, sector(i))
	}
	e := d.Copy()
	done := make(chan bool)
	go func() {
		for i := range 100 {
			e.Write(i%2, sector(i))
			e.Bytes()
		}
		e.Sync()
		done <- true
	}()
	for i := range 100 {
		d.Write(i%2, sector(200+i))
		d.Bytes()
	}
	d.Sync()
	<-done
	wants(t, "disk", d, join(sector(298), sector(299)), 0, false)
	wants(t, "copy", e, join(sector(98), sector(99)), 0, false)
}

func TestP3_2FuseOfACopy(t *testing.T) {
	d := disk.New(1)
	e := d.Copy()
	e.Fuse(0, all)
	noFuse(t, "the disk", d)
	if f := e.Sync(); f != api.ErrCrash || d.Dead() {
		t.Error(f, d.Dead())
	}
	d.Crash(0)
	e.Revive()
	if !d.Dead() || e.Dead() {
		t.Error(d.Dead(), e.Dead())
	}
}

func TestP3_2NilDisk(t *testing.T) {
	var d *disk.Disk
	for _, i := range []int{0, -1, 1} {
		if b, e := d.Read(i); len(b) != 0 || e != api.ErrArg {
			t.Error("Read", b, e)
		}
		if e := d.Write(i, sector(1)); e != api.ErrArg {
			t.Error("Write", e)
		}
		if e := d.Write(i, nil); e != api.ErrArg {
			t.Error("Write", e)
		}
	}
	if e := d.Sync(); e != api.ErrArg {
		t.Error("Sync", e)
	}
	d.Fuse(0, all)
	d.Crash(all)
	if d.Dead() {
		t.Error("Dead")
	}
	d.Revive()
	if e := d.Sync(); e != api.ErrArg {
		t.Error("Sync", e)
	}
	if d.Sectors() != 0 || d.Pending() != 0 || d.Dead() || len(d.Bytes()) != 0 || d.Copy() != nil {
		t.Error("something of a nil disk")
	}
}

// model is a disk as the document says it, with nothing shared.
type model struct {
	synced  []byte
	pending []pendingWrite
	calls   int
	keep    uint64
	dead    bool
}

type pendingWrite struct {
	at    int
	bytes []byte
}

func (m *model) bytes() []byte {
	out := slices.Clone(m.synced)
	for _, w := range m.pending {
		copy(out[128*w.at:], w.bytes)
	}
	return out
}

func (m *model) crash(keep uint64) {
	if m.dead {
		return
	}
	for i, w := range m.pending {
		if keep&(1<<(i%64)) != 0 {
			copy(m.synced[128*w.at:], w.bytes)
		}
	}
	m.pending, m.calls, m.dead = nil, -1, true
}

func (m *model) counts() bool {
	if m.calls == 0 {
		m.crash(m.keep)
		return false
	}
	m.calls = max(m.calls-1, -1)
	return true
}

func (m *model) write(i int, b []byte) api.Errno {
	if m.dead {
		return api.ErrCrash
	}
	if i < 0 || 128*i >= len(m.synced) {
		return api.ErrSector
	}
	if len(b) != 128 {
		return api.ErrArg
	}
	if !m.counts() {
		return api.ErrCrash
	}
	m.pending = append(m.pending, pendingWrite{i, slices.Clone(b)})
	return api.OK
}

func (m *model) sync() api.Errno {
	if m.dead || !m.counts() {
		return api.ErrCrash
	}
	m.synced, m.pending = m.bytes(), nil
	return api.OK
}

func (m *model) copy() *model {
	out := *m
	out.synced, out.pending = slices.Clone(m.synced), slices.Clone(m.pending)
	return &out
}

// dice are numbers in an order of their own.
type dice uint64

func (x *dice) next() uint64 {
	*x = *x*6364136223846793005 + 1442695040888963407
	return uint64(*x>>33)<<32 ^ uint64(*x>>20)
}

func (x *dice) below(n int) int { return int(x.next() % uint64(n)) }

// play does one call of a disk and of its model, and holds their answers
// against each other.
func play(t *testing.T, x *dice, d *disk.Disk, m *model) {
	t.Helper()
	switch k := x.below(40); {
	case k < 28:
		n := 128
		if x.below(20) == 0 {
			n = x.below(260)
		}
		i, b := x.below(len(m.synced)/128+2)-1, text(n, x.below(1000))
		if e, f := d.Write(i, b), m.write(i, b); e != f {
			t.Fatal("Write", i, n, e, f)
		}
	case k < 30:
		if e, f := d.Sync(), m.sync(); e != f {
			t.Fatal("Sync", e, f)
		}
	case k < 32:
		keep := x.next()
		d.Crash(keep)
		m.crash(keep)
	case k < 34:
		m.calls, m.keep = max(x.below(30)-5, -1), x.next()
		d.Fuse(m.calls, m.keep)
	default:
		d.Revive()
		m.dead = false
	}
}

func TestP3_2ManyCallsOfManyCopies(t *testing.T) {
	for seed := range 200 {
		x := dice(seed)
		n := 1 + x.below(5)
		disks := []*disk.Disk{disk.New(n)}
		models := []*model{{synced: make([]byte, 128*n), calls: -1}}
		for range 300 {
			i := x.below(len(disks))
			switch k := x.below(50); {
			case k > 1 || len(disks) > 5:
				play(t, &x, disks[i], models[i])
			case k == 0:
				disks, models = append(disks, disks[i].Copy()), append(models, models[i].copy())
			default:
				d := *disks[i]
				disks, models = append(disks, &d), append(models, models[i].copy())
			}
			for j, d := range disks {
				wants(t, "played", d, models[j].bytes(), len(models[j].pending), models[j].dead)
			}
			if t.Failed() {
				t.Fatal("seed", seed)
			}
		}
	}
}

// crashed writes numbered sectors to a synced disk, and lets it crash. It
// answers the sectors before, and the disk.
func crashed(t *testing.T, sectors, writes int, keep uint64) ([]byte, *disk.Disk) {
	t.Helper()
	d := disk.New(sectors)
	for i := range sectors {
		write(t, d, i, sector(5000+i))
	}
	sync(t, d)
	before := d.Bytes()
	for i := range writes {
		write(t, d, i*i%sectors, sector(i))
	}
	d.Crash(keep)
	return before, d
}

func TestP3_3CrashesKeepWholeWritesInOrder(t *testing.T) {
	// All choices among some writes.
	for keep := range uint64(1 << 8) {
		want, d := crashed(t, 5, 8, keep)
		for i := range 8 {
			if keep>>i&1 == 1 {
				copy(want[i*i%5*128:], sector(i))
			}
		}
		wants(t, "crashed", d, want, 0, true)
	}
}

func TestP3_3CrashesOfMoreThan64Writes(t *testing.T) {
	x := dice(9)
	keeps := []uint64{1, 2, 1 << 62, 1 << 63, 0x5555555555555555, 0xffffffff, all >> 1, all - 1}
	for range 50 {
		keeps = append(keeps, x.next())
	}
	for _, keep := range keeps {
		for _, n := range []int{63, 64, 65, 66, 127, 128, 129, 200, 640} {
			want, d := crashed(t, 37, n, keep)
			for i := range n {
				if keep>>(i%64)&1 == 1 {
					copy(want[i*i%37*128:], sector(i))
				}
			}
			wants(t, "crashed", d, want, 0, true)
		}
	}
}

func TestP3_3WhatWasSyncedIsNeverLost(t *testing.T) {
	x := dice(3)
	for range 100 {
		keep := x.next()
		before, d := crashed(t, 20, 9, keep)
		after := d.Bytes()
		for i := range 20 {
			got := after[i*128 : (i+1)*128]
			written := bytes.Equal(got, before[i*128:(i+1)*128])
			for k := range 9 {
				written = written || k*k%20 == i && bytes.Equal(got, sector(k))
			}
			if !written {
				t.Error(keep, "sector", i, "was never written so")
			}
		}
		d.Revive()
		d.Fuse(0, x.next())
		d.Sync()
		d.Revive()
		d.Crash(x.next())
		if !bytes.Equal(d.Bytes(), after) {
			t.Error(keep, "what was kept was lost by a later crash")
		}
	}
}

func TestP3_4KeepingAllIsASync(t *testing.T) {
	for _, n := range []int{0, 1, 2, 63, 64, 65, 128, 200} {
		d := disk.Of(text(1000, n))
		for i := range n {
			write(t, d, i*i%8, sector(i))
		}
		e, f := d.Copy(), d.Copy()
		want := d.Bytes()
		sync(t, d)
		e.Crash(all)
		e.Revive()
		f.Fuse(0, all)
		if x := f.Sync(); x != api.ErrCrash {
			t.Error(n, x)
		}
		f.Revive()
		for _, x := range []*disk.Disk{d, e, f} {
			wants(t, "kept", x, want, 0, false)
			write(t, x, 7, sector(300))
			x.Crash(0)
			wants(t, "kept by a later crash", x, want, 0, true)
		}
	}
}

func TestP3_4KeepingNothingUndoesAllSinceTheSync(t *testing.T) {
	for _, n := range []int{0, 1, 2, 63, 64, 65, 128, 200} {
		d := disk.Of(text(1000, n))
		write(t, d, 3, sector(400))
		sync(t, d)
		want := d.Bytes()
		for i := range n {
			write(t, d, i*i%8, sector(i))
		}
		e := d.Copy()
		d.Crash(0)
		wants(t, "undone", d, want, 0, true)
		e.Fuse(0, 0)
		if x := e.Write(0, sector(500)); x != api.ErrCrash {
			t.Error(n, x)
		}
		e.Revive()
		wants(t, "undone by a fuse", e, want, 0, false)
	}
}
