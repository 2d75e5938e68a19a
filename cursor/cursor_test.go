package cursor_test

import (
	"bytes"
	"errors"
	"math"
	"runtime"
	"slices"
	"testing"

	"clerestory/api"
	"clerestory/cursor"
)

var (
	sizes = []int{1, 2, 4, 8}
	wrong = []int{math.MinInt, -8, -1, 0, 3, 5, 6, 7, 9, 16, math.MaxInt}
)

// numbers are those at the edges of every size.
func numbers() []int {
	l := []int{0, 1, 127, 258, 0x0102030405060708, math.MaxInt}
	for k := 7; k < 63; k++ {
		l = append(l, 1<<k-1, 1<<k, 1<<k+1)
	}
	return l
}

// expected is the bytes of a number, computed by division.
func expected(n, size int, big bool) []byte {
	var l []byte
	for range size {
		l = append(l, byte(n%256))
		n /= 256
	}
	if big {
		slices.Reverse(l)
	}
	return l
}

// below tells whether a number is less than 256 to the power of size.
func below(n, size int) bool {
	return size == 8 || n < 1<<(8*size)
}

// tries reads bytes, and holds the error against the one that must come.
func tries(t *testing.T, what string, b []byte, want api.Errno, read func(c *cursor.Cursor)) {
	t.Helper()
	if e := cursor.Try(b, true, read); e != want {
		t.Errorf("%s: %d, not %d", what, e, want)
	}
}

func TestP1_1PutHasTheLowestBytes(t *testing.T) {
	for _, c := range []struct {
		n, size int
		big     bool
		want    []byte
	}{
		{258, 2, true, []byte{1, 2}},
		{258, 2, false, []byte{2, 1}},
		{258, 1, true, []byte{2}},
		{0x0102030405060708, 8, true, []byte{1, 2, 3, 4, 5, 6, 7, 8}},
		{0x0102030405060708, 8, false, []byte{8, 7, 6, 5, 4, 3, 2, 1}},
		{0x0102030405060708, 4, true, []byte{5, 6, 7, 8}},
		{0x0102030405060708, 4, false, []byte{8, 7, 6, 5}},
		{math.MaxInt, 8, true, []byte{127, 255, 255, 255, 255, 255, 255, 255}},
	} {
		if b := cursor.Put(nil, c.n, c.size, c.big); !bytes.Equal(b, c.want) {
			t.Error(c, b)
		}
	}
	for _, n := range numbers() {
		for _, size := range sizes {
			for _, big := range []bool{false, true} {
				want := append([]byte{7, 9}, expected(n, size, big)...)
				if b := cursor.Put([]byte{7, 9}, n, size, big); !bytes.Equal(b, want) {
					t.Error(n, size, big, b)
				}
			}
		}
	}
}

func TestP1_1PutOfANegativeNumberIsThatOfNought(t *testing.T) {
	for _, n := range []int{-1, -256, math.MinInt, math.MinInt + 1} {
		for _, size := range sizes {
			want := append([]byte{7}, make([]byte, size)...)
			if b := cursor.Put([]byte{7}, n, size, true); !bytes.Equal(b, want) {
				t.Error(n, size, b)
			}
		}
	}
}

func TestP1_1PutOfAWrongSizeHasNoBytes(t *testing.T) {
	for _, size := range wrong {
		if b := cursor.Put([]byte{7, 9}, 258, size, false); !bytes.Equal(b, []byte{7, 9}) {
			t.Error(size, b)
		}
		if b := cursor.Put(nil, 258, size, true); len(b) != 0 {
			t.Error(size, b)
		}
	}
}

func TestP1_1PutIsNewMemory(t *testing.T) {
	for _, size := range []int{1, 2, 3, 4, 8} {
		whole := []byte{1, 2, 3, 4, 5, 6, 7, 8, 9, 10, 11, 12}
		before := slices.Clone(whole)
		b := cursor.Put(whole[:2], 0x7777777777777777, size, true)
		b = b[:cap(b)]
		for i := range b {
			b[i] = 99
		}
		if !bytes.Equal(whole, before) {
			t.Error(size, whole)
		}
	}
}

func TestP1_2TryWithoutAFunction(t *testing.T) {
	tries(t, "nil", []byte{1}, api.ErrArg, nil)
	tries(t, "nil, no bytes", nil, api.ErrArg, nil)
}

func TestP1_2TryCallsOnceFromTheFirstByte(t *testing.T) {
	for _, b := range [][]byte{nil, {}, {1}, {1, 2, 3}} {
		calls := 0
		tries(t, "nothing read", b, api.OK, func(c *cursor.Cursor) {
			calls++
			if c.At() != 0 || c.Left() != len(b) {
				t.Error(b, c.At(), c.Left())
			}
		})
		if calls != 1 {
			t.Error(b, "called", calls)
		}
	}
	calls := 0
	tries(t, "gave up", nil, api.ErrShort, func(c *cursor.Cursor) {
		calls++
		c.Number(1)
	})
	if calls != 1 {
		t.Error("called", calls)
	}
}

func TestP1_2NumbersOneBehindTheOther(t *testing.T) {
	b := []byte{1, 2, 3, 4, 5, 6, 7, 8, 9, 10, 11, 12, 13, 14, 15}
	for _, c := range []struct {
		big  bool
		want []int
	}{
		{true, []int{0x01, 0x0203, 0x04050607, 0x08090a0b0c0d0e0f}},
		{false, []int{0x01, 0x0302, 0x07060504, 0x0f0e0d0c0b0a0908}},
	} {
		e := cursor.Try(b, c.big, func(r *cursor.Cursor) {
			at := 0
			for i, size := range sizes {
				if n := r.Number(size); n != c.want[i] {
					t.Error(c.big, size, n)
				}
				at += size
				if r.At() != at || r.Left() != len(b)-at {
					t.Error(c.big, size, r.At(), r.Left())
				}
			}
			r.End()
		})
		if e != api.OK {
			t.Error(c.big, e)
		}
	}
}

func TestP1_2NumberOfAWrongSize(t *testing.T) {
	for _, size := range wrong {
		for _, b := range [][]byte{nil, make([]byte, 20)} {
			tries(t, "Number", b, api.ErrArg, func(c *cursor.Cursor) {
				c.Number(size)
				t.Error("went on", size)
			})
		}
	}
}

func TestP1_2NumberOfTooFewBytes(t *testing.T) {
	for _, size := range sizes {
		for n := range size {
			// All bits set: a number that is too great, if it were there.
			b := bytes.Repeat([]byte{255}, n+3)
			tries(t, "Number", b, api.ErrShort, func(c *cursor.Cursor) {
				c.Skip(3)
				c.Number(size)
				t.Error("went on", size, n)
			})
		}
	}
}

func TestP1_2NumberThatIsTooGreat(t *testing.T) {
	for _, c := range []struct {
		top, low byte
		want     api.Errno
	}{{127, 255, api.OK}, {128, 0, api.ErrRange}, {255, 255, api.ErrRange}} {
		for _, big := range []bool{false, true} {
			b := bytes.Repeat([]byte{c.low}, 8)
			if big {
				b[0] = c.top
			} else {
				b[7] = c.top
			}
			e := cursor.Try(b, big, func(r *cursor.Cursor) {
				if n := r.Number(8); n != math.MaxInt {
					t.Error(c, big, n)
				}
			})
			if e != c.want {
				t.Error(c, big, e)
			}
		}
	}
	tries(t, "four bytes", bytes.Repeat([]byte{255}, 4), api.OK, func(c *cursor.Cursor) {
		if n := c.Number(4); n != 1<<32-1 {
			t.Error(n)
		}
	})
}

func TestP1_2Bytes(t *testing.T) {
	b := []byte{1, 2, 3, 4, 5}
	tries(t, "Bytes", b, api.OK, func(c *cursor.Cursor) {
		for _, n := range []int{math.MinInt, -1, 0} {
			if got := c.Bytes(n); len(got) != 0 || c.At() != 0 {
				t.Error(n, got, c.At())
			}
		}
		if got := c.Bytes(2); !bytes.Equal(got, []byte{1, 2}) || c.At() != 2 {
			t.Error(got, c.At())
		}
		if got := c.Bytes(3); !bytes.Equal(got, []byte{3, 4, 5}) || c.Left() != 0 {
			t.Error(got, c.Left())
		}
		if got := c.Bytes(0); len(got) != 0 {
			t.Error(got)
		}
	})
	for _, n := range []int{4, 5, math.MaxInt} {
		tries(t, "too few", b, api.ErrShort, func(c *cursor.Cursor) {
			c.Skip(2)
			c.Bytes(n)
			t.Error("went on", n)
		})
	}
}

func TestP1_2BytesAreACopy(t *testing.T) {
	b := []byte{1, 2, 3, 4, 5}
	tries(t, "Bytes", b, api.OK, func(c *cursor.Cursor) {
		first := c.Bytes(2)
		c.Seek(0)
		second := c.Bytes(3)
		first = first[:cap(first)]
		for i := range first {
			first[i] = 99
		}
		if !bytes.Equal(second, []byte{1, 2, 3}) {
			t.Error(second)
		}
	})
	if !bytes.Equal(b, []byte{1, 2, 3, 4, 5}) {
		t.Error(b)
	}
}

func TestP1_2Skip(t *testing.T) {
	b := []byte{1, 2, 3, 4, 5}
	tries(t, "Skip", b, api.OK, func(c *cursor.Cursor) {
		for _, n := range []int{math.MinInt, -1, 0} {
			if c.Skip(n); c.At() != 0 {
				t.Error(n, c.At())
			}
		}
		c.Skip(2)
		if c.At() != 2 || c.Left() != 3 {
			t.Error(c.At(), c.Left())
		}
		c.Skip(3)
		if c.At() != 5 || c.Left() != 0 {
			t.Error(c.At(), c.Left())
		}
	})
	for _, n := range []int{4, 5, math.MaxInt} {
		tries(t, "too few", b, api.ErrShort, func(c *cursor.Cursor) {
			c.Skip(2)
			c.Skip(n)
			t.Error("went on", n)
		})
	}
}

func TestP1_2Seek(t *testing.T) {
	b := []byte{1, 2, 3, 4, 5}
	tries(t, "Seek", b, api.OK, func(c *cursor.Cursor) {
		for _, at := range []int{5, 0, 3, 1, 1, 4} {
			c.Seek(at)
			if c.At() != at || c.Left() != 5-at {
				t.Error(at, c.At(), c.Left())
			}
		}
		if n := c.Number(1); n != 5 {
			t.Error(n)
		}
	})
	for _, at := range []int{math.MinInt, -1, 6, math.MaxInt} {
		tries(t, "outside", b, api.ErrRange, func(c *cursor.Cursor) {
			c.Seek(at)
			t.Error("went on", at)
		})
	}
	tries(t, "no bytes", nil, api.OK, func(c *cursor.Cursor) { c.Seek(0) })
	tries(t, "no bytes", nil, api.ErrRange, func(c *cursor.Cursor) { c.Seek(1) })
}

func TestP1_2Fail(t *testing.T) {
	for e := api.ErrArg; e <= api.ErrStep; e++ {
		tries(t, "Fail", nil, e, func(c *cursor.Cursor) {
			c.Fail(e)
			t.Error("went on", e)
		})
	}
	for _, e := range []api.Errno{-1, 24, math.MaxInt} {
		tries(t, "no error's number", nil, e, func(c *cursor.Cursor) { c.Fail(e) })
	}
	on := false
	tries(t, "OK", []byte{1}, api.OK, func(c *cursor.Cursor) {
		c.Fail(api.OK)
		on = c.At() == 0 && c.Left() == 1
	})
	if !on {
		t.Error("Fail with OK did something")
	}
}

func TestP1_2End(t *testing.T) {
	tries(t, "no bytes", nil, api.OK, func(c *cursor.Cursor) { c.End() })
	tries(t, "all read", []byte{1, 2}, api.OK, func(c *cursor.Cursor) {
		c.Number(2)
		c.End()
	})
	tries(t, "one left", []byte{1, 2}, api.ErrMore, func(c *cursor.Cursor) {
		c.Number(1)
		c.End()
		t.Error("went on")
	})
}

// quietly calls, and stops what it panics with.
func quietly(call func()) {
	defer func() { _ = recover() }()
	call()
}

func TestP1_2GivingUpMovesNothing(t *testing.T) {
	b := append([]byte{1}, bytes.Repeat([]byte{255}, 8)...)
	tries(t, "read recovered", b, api.OK, func(c *cursor.Cursor) {
		c.Skip(1)
		for i, call := range []func(){
			func() { c.Number(3) }, func() { c.Number(8) }, func() { c.Bytes(9) }, func() { c.Skip(9) },
			func() { c.Seek(-1) }, func() { c.Seek(10) }, func() { c.Fail(api.ErrSum) }, func() { c.End() },
		} {
			quietly(call)
			if c.At() != 1 || c.Left() != 8 {
				t.Error(i, c.At(), c.Left())
			}
		}
	})
}

// passed is what a call of Try panics with.
func passed(read func(c *cursor.Cursor)) (x any) {
	defer func() { x = recover() }()
	cursor.Try([]byte{1, 2}, true, read)
	return nil
}

func TestP1_2OtherPanicsArePassedOn(t *testing.T) {
	own := errors.New("own")
	for _, x := range []any{"mine", 7, own, api.ErrShort, api.OK} {
		if got := passed(func(c *cursor.Cursor) { panic(x) }); got != x {
			t.Error(x, got)
		}
	}
	none := []int{}
	if _, ok := passed(func(c *cursor.Cursor) { none[c.Left()] = 1 }).(runtime.Error); !ok {
		t.Error("a panic of the language was lost")
	}
	if passed(func(c *cursor.Cursor) { panic(nil) }) == nil {
		t.Error("a panic with nil was lost")
	}
	if x := passed(func(c *cursor.Cursor) { c.Number(4) }); x != nil {
		t.Error("a cursor's panic came out", x)
	}
}

func TestP1_2OnePanicUponAnother(t *testing.T) {
	x := passed(func(c *cursor.Cursor) {
		defer func() { panic("mine") }()
		c.Fail(api.ErrSum)
	})
	if x != "mine" {
		t.Error(x)
	}
	tries(t, "raised again", nil, api.ErrSum, func(c *cursor.Cursor) {
		defer func() { panic(recover()) }()
		c.Fail(api.ErrSum)
	})
}

func TestP1_2TryInsideTry(t *testing.T) {
	tries(t, "the inner one gives up", []byte{1, 2}, api.OK, func(c *cursor.Cursor) {
		tries(t, "inner", []byte{3}, api.ErrShort, func(d *cursor.Cursor) { d.Number(2) })
		if n := c.Number(2); n != 0x0102 {
			t.Error(n)
		}
	})
	tries(t, "the outer one gives up", []byte{1, 2}, api.ErrSum, func(c *cursor.Cursor) {
		cursor.Try([]byte{3}, false, func(d *cursor.Cursor) { c.Fail(api.ErrSum) })
		t.Error("the inner Try took the panic of the outer cursor")
	})
}

func TestP1_2CopiesOfACursorAreIndependent(t *testing.T) {
	tries(t, "copy", []byte{1, 2, 3}, api.ErrCode, func(c *cursor.Cursor) {
		c.Skip(1)
		d := *c
		d.Skip(1)
		if c.At() != 1 || d.At() != 2 || c.Number(1) != 2 || d.Number(1) != 3 {
			t.Error(c.At(), d.At())
		}
		d.Fail(api.ErrCode)
	})
}

// idle tells whether a cursor answers nothing and does nothing.
func idle(t *testing.T, what string, c *cursor.Cursor) {
	t.Helper()
	defer func() {
		if x := recover(); x != nil {
			t.Error(what, "panics:", x)
		}
	}()
	for _, n := range []int{math.MinInt, -1, 0, 1, 2, 3, 4, 8, 100, math.MaxInt} {
		c.Skip(n)
		c.Seek(n)
		c.Fail(api.Errno(n))
		c.End()
		if c.Number(n) != 0 || len(c.Bytes(n)) != 0 || c.At() != 0 || c.Left() != 0 {
			t.Error(what, "answers", n)
		}
	}
}

func TestP1_3ANilCursor(t *testing.T) {
	idle(t, "nil", nil)
	tries(t, "nil inside", []byte{1}, api.OK, func(c *cursor.Cursor) { idle(t, "nil inside", nil) })
	idle(t, "zero", &cursor.Cursor{})
}

func TestP1_3ACursorWhoseTryHasEnded(t *testing.T) {
	b := []byte{1, 2, 3, 4, 5, 6, 7, 8, 9}
	var kept *cursor.Cursor
	var copied cursor.Cursor
	keep := func(c *cursor.Cursor) {
		c.Skip(1)
		kept, copied = c, *c
	}
	for _, c := range []struct {
		what string
		run  func()
	}{
		{"returned", func() { cursor.Try(b, true, keep) }},
		{"gave up", func() { cursor.Try(b, true, func(c *cursor.Cursor) { keep(c); c.Fail(api.ErrSum) }) }},
		{"panicked", func() { passed(func(c *cursor.Cursor) { keep(c); panic("mine") }) }},
		{"left", func() {
			done := make(chan int)
			go func() {
				defer close(done)
				cursor.Try(b, true, func(c *cursor.Cursor) { keep(c); runtime.Goexit() })
			}()
			<-done
		}},
	} {
		kept = nil
		c.run()
		if kept == nil {
			t.Fatal(c.what, "was not called")
		}
		idle(t, c.what, kept)
		idle(t, c.what+", a copy", &copied)
		tries(t, "a later Try", b, api.OK, func(d *cursor.Cursor) {
			idle(t, c.what+", in a later Try", kept)
			if d.At() != 0 || d.Left() != len(b) {
				t.Error(c.what, "moved another cursor")
			}
		})
	}
}

func TestP1_4ANumberThatWasPutIsReadBack(t *testing.T) {
	for _, n := range numbers() {
		for _, size := range sizes {
			for _, big := range []bool{false, true} {
				if !below(n, size) {
					continue
				}
				e := cursor.Try(cursor.Put(nil, n, size, big), big, func(c *cursor.Cursor) {
					if got := c.Number(size); got != n {
						t.Error(n, size, big, got)
					}
					c.End()
				})
				if e != api.OK {
					t.Error(n, size, big, e)
				}
			}
		}
	}
}

func TestP1_4PuttingWhatWasReadMakesTheBytes(t *testing.T) {
	for seed := range 256 {
		for _, size := range sizes {
			for _, big := range []bool{false, true} {
				b := make([]byte, size)
				for i := range b {
					b[i] = byte(seed + 73*i)
				}
				if size == 8 { // a number that is not too great
					b[0], b[7] = b[0]%128, b[7]%128
				}
				e := cursor.Try(b, big, func(c *cursor.Cursor) {
					if got := cursor.Put(nil, c.Number(size), size, big); !bytes.Equal(got, b) {
						t.Error(b, big, got)
					}
				})
				if e != api.OK {
					t.Error(b, big, e)
				}
			}
		}
	}
}

func TestExample1(t *testing.T) {
	b := cursor.Put(nil, 258, 2, true)
	if !bytes.Equal(b, []byte{1, 2}) {
		t.Error(b)
	}
	tries(t, "four of two bytes", b, api.ErrShort, func(c *cursor.Cursor) { c.Number(4) })
	tries(t, "four of two bytes", b, api.ErrShort, func(c *cursor.Cursor) { c.Bytes(4) })
}
