package head_test

import (
	"bytes"
	"math"
	"testing"

	"clerestory/api"
	"clerestory/head"
)

func TestExample1(t *testing.T) {
	b, e := head.Put(api.Head{Gen: 1, First: 0, End: 128})
	if e != api.OK || len(b) != 128 {
		t.Fatal("Put:", b, e)
	}
	if !bytes.Equal(b[:4], raw("49 49 2a 00")) || b[68] != 1 {
		t.Errorf("Put: % x", b)
	}
}

// valid is heads at the borders of what may be.
func valid(big bool) []api.Head {
	return heads(big,
		1, 0, 128, 2, 0, 128, 255, 0, 128, 1<<32, 0, 128, 1<<40-1, 0, 128, 1<<40, 0, 128,
		1, 0, 256, 1, 128, 256, 1, 0, 384, 1, 128, 384, 1, 256, 384, 7, 1280, 12800,
		1, 0, 1<<19-128, 1, 0, 1<<19, 1, 128, 1<<19, 1, 1<<19-256, 1<<19, 1, 1<<19-128, 1<<19, 1, 1<<19-256, 1<<19-128,
		1<<40, 1<<19-128, 1<<19, 0x0123456789, 0x12300, 0x45600,
	)
}

// refused is heads each of which has one number that may not be.
func refused(big bool) []api.Head {
	return append(heads(big,
		// Gen
		0, 0, 128, -1, 0, 128, -2, 0, 128, -1<<40, 0, 128, 1<<40+1, 0, 128, 1<<40+2, 0, 128, 1<<41, 0, 128, 1<<53+1, 0, 128, math.MaxInt, 0, 128, math.MinInt, 0, 128,
		0, 128, 256, 1<<40+1, 128, 256,
		// End
		1, 0, 0, 1, 0, 1, 1, 0, 64, 1, 0, 127, 1, 0, 129, 1, 0, 192, 1, 0, 255, 1, 0, 257, 1, 0, -1, 1, 0, -128, 1, 0, -256,
		1, 0, 1<<19-1, 1, 0, 1<<19-64, 1, 0, 1<<19+1, 1, 0, 1<<19+128, 1, 0, 1<<20, 1, 0, 1<<32+128, 1, 0, 1<<62,
		1, 0, math.MaxInt, 1, 0, math.MaxInt-127, 1, 0, math.MinInt, 1, 0, math.MinInt+128,
		1, 128, 129, 1, 128, 257, 1, 128, 1<<19+128, 1, 1<<19, 1<<19+128,
	), heads(big,
		// First
		1, -1, 256, 1, -128, 256, 1, -256, 256, 1, math.MinInt, 256, 1, 1, 256, 1, 2, 256, 1, 8, 256, 1, 64, 256, 1, 127, 256, 1, 129, 256, 1, 130, 256, 1, 192, 256, 1, 255, 256,
		1, 256, 256, 1, 257, 256, 1, 384, 256, 1, 1<<19, 256, 1, 1<<32, 256, 1, 1<<32+128, 256, 1, math.MaxInt, 256, 1, math.MaxInt-127, 256,
		1, 128, 128, 1, 64, 128, 1, -128, 128, 1, 256, 128, 1, 1<<19, 1<<19, 1, 1<<19-64, 1<<19, 1, 1<<19-129, 1<<19, 1, 1<<19+128, 1<<19,
	)...)
}

func TestP18_1Right(t *testing.T) {
	both(t, func(t *testing.T, big bool) {
		for _, h := range valid(big) {
			if !head.Right(h) || !mayBe(h) {
				t.Errorf("Right(%+v) is %t, of the model %t; it must be true", h, head.Right(h), mayBe(h))
			}
		}
		for _, h := range refused(big) {
			if head.Right(h) || mayBe(h) {
				t.Errorf("Right(%+v) is %t, of the model %t; it must be false", h, head.Right(h), mayBe(h))
			}
		}
		if head.Right(api.Head{Big: big}) {
			t.Error("Right of the zero head")
		}
	})
}

// TestP18_1RightOfAll asks of all places near the borders, on small files.
func TestP18_1RightOfAll(t *testing.T) {
	both(t, func(t *testing.T, big bool) {
		for gen := -1; gen <= 2; gen++ {
			for end := -130; end <= 520; end++ {
				for first := -130; first <= 520; first++ {
					h := api.Head{Big: big, Gen: gen, First: first, End: end}
					want := gen >= 1 && (end == 128 && first == 0 || end == 256 && (first == 0 || first == 128) ||
						end == 384 && (first == 0 || first == 128 || first == 256) ||
						end == 512 && (first == 0 || first == 128 || first == 256 || first == 384))
					if head.Right(h) != want {
						t.Fatalf("Right(%+v) is %t", h, !want)
					}
				}
			}
		}
	})
}

// TestP18_1RightAtRandom asks of one number after the other that is drawn.
func TestP18_1RightAtRandom(t *testing.T) {
	d, may := dice(181), 0
	for range 20000 {
		h := drawAny(&d)
		if head.Right(h) != mayBe(h) {
			t.Fatalf("Right(%+v) is %t", h, head.Right(h))
		}
		if mayBe(h) {
			may++
		}
	}
	if may < 500 || may > 15000 {
		t.Error("heads that may be:", may)
	}
}

func TestP18_1PutBytes(t *testing.T) {
	for _, c := range []struct {
		h     api.Head
		start []byte // the header
		tail  []byte // from the mark on
	}{
		{api.Head{Gen: 1, First: 0, End: 128}, raw("49492a00 00000000"), raw("434c5259 0100000000000000 8000000000000000")},
		{api.Head{Gen: 2, First: 128, End: 256}, raw("49492a00 80000000"), raw("434c5259 0200000000000000 0001000000000000")},
		{api.Head{Gen: 0x0123456789, First: 0x12300, End: 0x45600}, raw("49492a00 00230100"), raw("434c5259 8967452301000000 0056040000000000")},
		{api.Head{Gen: 1 << 40, First: 1<<19 - 128, End: 1 << 19}, raw("49492a00 80ff0700"), raw("434c5259 0000000000010000 0000080000000000")},
		{api.Head{Big: true, Gen: 1, First: 0, End: 128}, raw("49492b00 08000000 0000000000000000"), raw("434c5259 0100000000000000 8000000000000000")},
		{api.Head{Big: true, Gen: 2, First: 128, End: 256}, raw("49492b00 08000000 8000000000000000"), raw("434c5259 0200000000000000 0001000000000000")},
		{api.Head{Big: true, Gen: 0x0123456789, First: 0x12300, End: 0x45600}, raw("49492b00 08000000 0023010000000000"), raw("434c5259 8967452301000000 0056040000000000")},
		{api.Head{Big: true, Gen: 1 << 40, First: 1<<19 - 128, End: 1 << 19}, raw("49492b00 08000000 80ff070000000000"), raw("434c5259 0000000000010000 0000080000000000")},
	} {
		want := make([]byte, 128)
		copy(want, c.start)
		copy(want[64:], c.tail)
		sum(want)
		if b, e := head.Put(c.h); e != api.OK || !bytes.Equal(b, want) {
			t.Errorf("Put(%+v) is % x, %d; it must be % x", c.h, b, e, want)
		}
		checkGet(t, want, c.h, api.OK)
	}
}

// TestP18_1PutSum holds two sectors whose sums were worked out elsewhere.
func TestP18_1PutSum(t *testing.T) {
	for _, c := range []struct {
		big  bool
		want []byte
	}{{false, raw("79 4c 54 49")}, {true, raw("89 97 56 8f")}} {
		if b, e := head.Put(api.Head{Big: c.big, Gen: 1, End: 128}); e != api.OK || !bytes.Equal(b[124:], c.want) {
			t.Errorf("the sum is % x, %d; it must be % x", b[124:], e, c.want)
		}
	}
}

func TestP18_1PutValid(t *testing.T) {
	both(t, func(t *testing.T, big bool) {
		for _, h := range valid(big) {
			want, e := modelPut(h)
			if e != api.OK {
				t.Fatalf("the model refuses %+v", h)
			}
			if b, e := head.Put(h); e != api.OK || !bytes.Equal(b, want) {
				t.Errorf("Put(%+v) is % x, %d; it must be % x", h, b, e, want)
			}
		}
	})
}

func TestP18_1PutRefused(t *testing.T) {
	both(t, func(t *testing.T, big bool) {
		for _, h := range append(refused(big), api.Head{Big: big}) {
			if b, e := head.Put(h); e != api.ErrArg || len(b) != 0 {
				t.Errorf("Put(%+v) is % x, %d; it must be ErrArg", h, b, e)
			}
		}
	})
}

func TestP18_2Next(t *testing.T) {
	both(t, func(t *testing.T, big bool) {
		for _, h := range valid(big) {
			for _, c := range valid(big) {
				// The Gen of the second one does not matter: only its places do.
				want, why := api.Head{Big: big, Gen: h.Gen + 1, First: c.First, End: c.End}, api.OK
				if h.Gen == 1<<40 {
					want, why = api.Head{}, api.ErrRange
				}
				if n, e := head.Next(h, c.First, c.End); n != want || e != why {
					t.Errorf("Next(%+v, %d, %d) is %+v, %d; it must be %+v, %d", h, c.First, c.End, n, e, want, why)
				}
			}
		}
	})
}

func TestP18_2LastGen(t *testing.T) {
	both(t, func(t *testing.T, big bool) {
		h, e := head.Next(api.Head{Big: big, Gen: 1<<40 - 1, End: 128}, 256, 512)
		if e != api.OK || h != (api.Head{Big: big, Gen: 1 << 40, First: 256, End: 512}) {
			t.Error("behind the last but one:", h, e)
		}
		if n, e := head.Next(h, 256, 512); e != api.ErrRange || n != (api.Head{}) {
			t.Error("behind the last:", n, e)
		}
		if n, e := head.Next(h, 1, 1); e != api.ErrRange || n != (api.Head{}) {
			t.Error("behind the last, at no place:", n, e)
		}
	})
}

func TestP18_2ErrArg(t *testing.T) {
	both(t, func(t *testing.T, big bool) {
		for _, h := range append(refused(big), api.Head{Big: big}) {
			// With places that may be, with others, and with its own.
			for _, c := range [][2]int{{0, 128}, {128, 256}, {0, 127}, {256, 256}, {math.MinInt, math.MaxInt}, {h.First, h.End}} {
				if n, e := head.Next(h, c[0], c[1]); e != api.ErrArg || n != (api.Head{}) {
					t.Errorf("Next(%+v, %d, %d) is %+v, %d; it must be ErrArg", h, c[0], c[1], n, e)
				}
			}
		}
	})
}

func TestP18_2ErrRange(t *testing.T) {
	both(t, func(t *testing.T, big bool) {
		for _, h := range valid(big) {
			for _, c := range refused(big) {
				if c.Gen != 1 {
					continue
				}
				if n, e := head.Next(h, c.First, c.End); e != api.ErrRange || n != (api.Head{}) {
					t.Errorf("Next(%+v, %d, %d) is %+v, %d; it must be ErrRange", h, c.First, c.End, n, e)
				}
			}
		}
	})
}

func TestP18_2AtRandom(t *testing.T) {
	d, refusals := dice(182), map[api.Errno]int{}
	for range 20000 {
		h, c := draw(&d), drawAny(&d)
		if d.below(4) == 0 {
			h = drawAny(&d)
		}
		want, why := api.Head{Big: h.Big, Gen: h.Gen + 1, First: c.First, End: c.End}, api.OK
		switch {
		case !mayBe(h):
			want, why = api.Head{}, api.ErrArg
		case !mayBe(want):
			want, why = api.Head{}, api.ErrRange
		}
		if n, e := head.Next(h, c.First, c.End); n != want || e != why {
			t.Fatalf("Next(%+v, %d, %d) is %+v, %d; it must be %+v, %d", h, c.First, c.End, n, e, want, why)
		}
		refusals[why]++
	}
	for _, e := range []api.Errno{api.OK, api.ErrArg, api.ErrRange} {
		if refusals[e] < 300 {
			t.Error("few answers of", e, refusals)
		}
	}
}

func TestP18_4Newer(t *testing.T) {
	both(t, func(t *testing.T, big bool) {
		for _, h := range valid(big) {
			if h.Gen > 1<<40-2 {
				continue
			}
			next, e := head.Next(h, h.First, h.End)
			if e != api.OK || next.Gen <= h.Gen || next == h || next.Big != h.Big {
				t.Errorf("behind %+v comes %+v, %d", h, next, e)
			}
			// What is the same but for its generation has another sector, too.
			a, _ := head.Put(h)
			b, _ := head.Put(next)
			if bytes.Equal(a, b) || bytes.Equal(a[:124], b[:124]) {
				t.Errorf("the sectors of %+v and %+v are the same", h, next)
			}
			third, e := head.Next(next, 0, 128)
			if e != api.OK || third.Gen <= next.Gen || third.Gen <= h.Gen || third == next || third == h {
				t.Errorf("behind %+v comes %+v, %d", next, third, e)
			}
		}
	})
}

// TestP18_4Row goes on from head to head, each put and got.
func TestP18_4Row(t *testing.T) {
	both(t, func(t *testing.T, big bool) {
		d := dice(184)
		h := api.Head{Big: big, Gen: 1<<40 - 2000, End: 128}
		seen := map[api.Head]int{h: 0}
		for i := 1; i <= 2000; i++ {
			to := draw(&d)
			next, e := head.Next(h, to.First, to.End)
			if e != api.OK || next.Gen != h.Gen+1 {
				t.Fatalf("behind %+v comes %+v, %d", h, next, e)
			}
			if k, ok := seen[next]; ok {
				t.Fatalf("%+v came before, at %d", next, k)
			}
			seen[next] = i
			b, _ := head.Put(next)
			if h, e = head.Get(b); h != next || e != api.OK {
				t.Fatalf("%+v is got as %+v, %d", next, h, e)
			}
		}
		if n, e := head.Next(h, 0, 128); e != api.ErrRange || n != (api.Head{}) {
			t.Error("behind the last:", n, e)
		}
	})
}
