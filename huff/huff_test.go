package huff_test

import (
	"bytes"
	"fmt"
	"math"
	"slices"
	"strings"
	"testing"

	"clerestory/api"
	"clerestory/bits"
	"clerestory/huff"
)

// dice is a source of numbers that are the same in every run.
type dice uint64

// below is the next number, less than n.
func (d *dice) below(n int) int {
	*d = *d*6364136223846793005 + 1442695040888963407
	return int(uint64(*d)>>33) % n
}

// counts is counts of codes, from 1 bit on; those that are left out are 0.
func counts(l ...int) (c [16]int) {
	copy(c[:], l)
	return c
}

// at is a count of codes of one length alone.
func at(length, count int) (c [16]int) {
	c[length-1] = count
	return c
}

// stairs is one code of each length up to one: 0, 10, 110, and so on.
func stairs(length int) (c [16]int) {
	for i := range length {
		c[i] = 1
	}
	return c
}

// upward is n values, from one on.
func upward(from, n int) []int {
	l := make([]int, n)
	for i := range l {
		l[i] = from + i
	}
	return l
}

// sum is how many codes there are.
func sum(c [16]int) int {
	n := 0
	for _, x := range c {
		n += x
	}
	return n
}

// overwrite writes over some numbers and what spare capacity they have.
func overwrite(l []int) {
	l = l[:cap(l)]
	for i := range l {
		l[i] = -7
	}
}

// share is 2^16 times how much of all bits begins with some codes: these are
// codes without set bits alone just if something is left.
func share(c [16]int) int {
	n := 0
	for i, x := range c {
		n += x << (15 - i)
	}
	return n
}

// codes is the codes of a valid spec in their order, as binary digits: each is
// what begins 16 bits just behind those that the ones before it have taken.
func codes(s api.Spec) []string {
	var l []string
	taken := 0
	for i, x := range s.Bits {
		for range x {
			l = append(l, fmt.Sprintf("%016b", taken)[:i+1])
			taken += 1 << (15 - i)
		}
	}
	return l
}

// number is what binary digits are.
func number(s string) int {
	n := 0
	for _, c := range s {
		n = 2*n + int(c-'0')
	}
	return n
}

// scan is the scan bytes of bits that are written as binary digits.
func scan(s string) []byte {
	for len(s)%8 != 0 {
		s += "1"
	}
	var l []byte
	for i := 0; i < len(s); i += 8 {
		n := number(s[i : i+8])
		l = append(l, byte(n))
		if n == 255 {
			l = append(l, 0)
		}
	}
	return l
}

// within is how many bytes of a scan have some of its first n bits.
func within(text string, n int) int {
	return len(scan(text[:min((n+7)/8*8, len(text))]))
}

// table is a spec's table, which there must be.
func table(t *testing.T, s api.Spec) *huff.Table {
	t.Helper()
	h, e := huff.New(s)
	if h == nil || e != api.OK {
		t.Fatal("New", s, e)
	}
	return h
}

// same compares specs.
func same(a, b api.Spec) bool {
	return a.Bits == b.Bits && slices.Equal(a.Vals, b.Vals)
}

// is compares a table with what it should be: the spec, and each value's code.
func is(t *testing.T, what string, h *huff.Table, s api.Spec) {
	t.Helper()
	if got := h.Spec(); !same(got, s) {
		t.Error(what, "Spec:", got, "not", s)
	}
	want := map[int]string{}
	for i, c := range codes(s) {
		want[s.Vals[i]] = c
	}
	for v := -3; v < 260; v++ {
		c := want[v]
		bits, n, ok := h.Code(v)
		if bits != number(c) || n != len(c) || ok != (c != "") {
			t.Errorf("%s Code(%d): %d %d %v, not %q", what, v, bits, n, ok, c)
		}
	}
}

// sparse is a spec of random counts that leave room or not, with random values.
func sparse(d *dice) api.Spec {
	var s api.Spec
	room, values := 1<<16-1, 256
	most := 1 + d.below(60)
	for i := range s.Bits {
		if d.below(3) == 0 {
			continue
		}
		n := min(d.below(most), room>>(15-i), values)
		s.Bits[i] = n
		room -= n << (15 - i)
		values -= n
	}
	if values == 256 {
		s.Bits[d.below(16)] = 1
	}
	s.Vals = drawn(sum(s.Bits), d)
	return s
}

// full is a spec of random counts behind which there is no room for any code,
// with random values.
func full(d *dice) api.Spec {
	var s api.Spec
	free := 1 // beginnings of this length that are no codes
	for i := range s.Bits {
		free *= 2
		s.Bits[i] = free - 1 // set bits alone are left
		if i < 6 {
			s.Bits[i] = d.below(free)
		}
		free -= s.Bits[i]
	}
	s.Vals = drawn(sum(s.Bits), d)
	return s
}

// specs is some specs that are valid: random ones, and ones of special forms.
func specs() []api.Spec {
	d := dice(1)
	var l []api.Spec
	for range 60 {
		l = append(l, sparse(&d), full(&d))
	}
	for n := 1; n <= 16; n++ {
		l = append(l, api.Spec{Bits: at(n, 1), Vals: drawn(1, &d)})
		l = append(l, api.Spec{Bits: stairs(n), Vals: drawn(n, &d)})
		if n <= 8 {
			l = append(l, api.Spec{Bits: at(n, 1<<n-1), Vals: drawn(1<<n-1, &d)})
		} else {
			l = append(l, api.Spec{Bits: at(n, 256), Vals: drawn(256, &d)})
		}
	}
	return l
}

// drawn is n different values in a random order.
func drawn(n int, d *dice) []int {
	l := upward(0, 256)
	for i := range l {
		k := i + d.below(len(l)-i)
		l[i], l[k] = l[k], l[i]
	}
	return l[:n:n]
}

func TestExample1(t *testing.T) {
	h := table(t, api.Spec{Bits: counts(1, 0, 2), Vals: []int{7, 5, 9}})
	for i, want := range []struct{ value, code, length int }{{7, 0, 1}, {5, 4, 3}, {9, 5, 3}} {
		if code, length, ok := h.Code(want.value); code != want.code || length != want.length || !ok {
			t.Error(i, code, length, ok)
		}
	}
}

// right holds what Right and New answer against what they must.
func right(t *testing.T, what string, s api.Spec, want bool) {
	t.Helper()
	if ok := huff.Right(s); ok != want {
		t.Error(what, "Right:", ok, s.Bits, len(s.Vals))
	}
	h, e := huff.New(s)
	if want && (h == nil || e != api.OK) || !want && (h != nil || e != api.ErrForm) {
		t.Error(what, "New:", h != nil, e, s.Bits, len(s.Vals))
	}
}

func TestP5_1ValidSpecs(t *testing.T) {
	for i, s := range specs() {
		right(t, fmt.Sprint("spec ", i), s, true)
	}
}

func TestP5_1NoCodeOfSetBitsAlone(t *testing.T) {
	for n := 1; n <= 16; n++ {
		c := stairs(n)
		right(t, "no set bits alone", api.Spec{Bits: c, Vals: upward(0, n)}, true)
		c[n-1]++
		right(t, "set bits alone at the last length", api.Spec{Bits: c, Vals: upward(0, n+1)}, false)
		for longer := n + 1; longer <= 16; longer++ {
			c := stairs(n)
			c[n-1]++
			c[longer-1]++
			right(t, "codes behind set bits alone", api.Spec{Bits: c, Vals: upward(0, n+2)}, false)
		}
		if n <= 8 {
			right(t, "one less than fit", api.Spec{Bits: at(n, 1<<n-2), Vals: upward(0, 1<<n-2)}, n > 1)
			right(t, "as many as fit", api.Spec{Bits: at(n, 1<<n-1), Vals: upward(0, 1<<n-1)}, true)
			right(t, "one more", api.Spec{Bits: at(n, 1<<n), Vals: upward(0, 1<<n)}, false)
		}
		if n < 8 {
			right(t, "two more", api.Spec{Bits: at(n, 1<<n+1), Vals: upward(0, 1<<n+1)}, false)
		}
	}
}

func TestP5_1CountsThatFillAndOneMore(t *testing.T) {
	d := dice(2)
	for range 200 {
		s := full(&d)
		right(t, "full", s, true)
		for i := range s.Bits {
			more := api.Spec{Bits: s.Bits, Vals: drawn(len(s.Vals)+1, &d)}
			more.Bits[i]++
			right(t, "one more than full", more, false)
		}
	}
}

func TestP5_1RandomCounts(t *testing.T) {
	d := dice(3)
	valid := 0
	for range 20000 {
		var s api.Spec
		for range 1 + d.below(5) {
			n := d.below(16)
			s.Bits[n] += d.below(min(2<<n+2, 100))
		}
		n := sum(s.Bits)
		want := n > 0 && n <= 256 && share(s.Bits) < 1<<16
		if want {
			valid++
		}
		s.Vals = drawn(min(n, 256), &d)
		right(t, "random", s, want)
	}
	if valid < 2000 || valid > 18000 {
		t.Error("one-sided:", valid)
	}
}

func TestP5_1NegativeCounts(t *testing.T) {
	for i := range 16 {
		for _, x := range []int{-1, -2, -255, -1 << 32, math.MinInt, math.MinInt + 1} {
			c := at(16, 5)
			c[i] = x
			for _, n := range []int{0, 1, 3, 4, 5} {
				right(t, "a negative count", api.Spec{Bits: c, Vals: upward(0, n)}, false)
			}
		}
		// These add up to what there are values of.
		for k := range 16 {
			c := at(16, 9)
			c[i]--
			c[k]++
			if c[i] < 0 {
				right(t, "a negative count and one more", api.Spec{Bits: c, Vals: upward(0, 9)}, false)
			}
		}
	}
	right(t, "behind the codes", api.Spec{Bits: counts(0, 3, -1), Vals: upward(0, 2)}, false)
	right(t, "ahead of the codes", api.Spec{Bits: counts(0, -1, 0, 3), Vals: upward(0, 2)}, false)
}

func TestP5_1HugeCounts(t *testing.T) {
	for i := range 16 {
		for _, x := range []int{257, 65535, 65536, 1 << 31, 1<<32 + 1, 1 << 62, math.MaxInt - 1, math.MaxInt} {
			for _, n := range []int{0, 1, 2, 256} {
				right(t, "a huge count", api.Spec{Bits: at(i+1, x), Vals: upward(0, n)}, false)
			}
		}
	}
	// Sums of these overflow, and come back to the number of the values.
	for i := 0; i+4 <= 16; i++ {
		var c [16]int
		c[i], c[i+1], c[i+2] = math.MaxInt, math.MaxInt, 3
		right(t, "three that overflow", api.Spec{Bits: c, Vals: upward(0, 1)}, false)
		c[i], c[i+1], c[i+2], c[i+3] = 1<<62, 1<<62, 1<<62, 1<<62
		right(t, "four that overflow", api.Spec{Bits: c}, false)
		// So do the codes that would come next, which begin with 2 here.
		c[i], c[i+1], c[i+2], c[i+3] = 1, math.MaxInt, math.MaxInt, 2
		right(t, "codes that overflow", api.Spec{Bits: c, Vals: upward(0, 1)}, false)
	}
}

func TestP5_1AsManyValuesAsCodes(t *testing.T) {
	d := dice(4)
	for range 100 {
		s := sparse(&d)
		for _, n := range []int{0, 1, len(s.Vals) - 1, len(s.Vals), len(s.Vals) + 1, 256} {
			n = min(n, 256)
			right(t, "some values", api.Spec{Bits: s.Bits, Vals: drawn(n, &d)}, n == len(s.Vals))
		}
	}
}

func TestP5_1OneTo256Values(t *testing.T) {
	right(t, "no value", api.Spec{}, false)
	right(t, "no value, empty", api.Spec{Vals: []int{}}, false)
	for n := 1; n <= 255; n++ {
		right(t, "some", api.Spec{Bits: at(8, n), Vals: upward(0, n)}, true)
		right(t, "some", api.Spec{Bits: at(16, n), Vals: upward(256-n, n)}, true)
	}
	right(t, "256", api.Spec{Bits: at(9, 256), Vals: upward(0, 256)}, true)
	for _, n := range []int{257, 258, 300, 510} {
		right(t, "too many", api.Spec{Bits: at(9, n), Vals: upward(0, n)}, false)
		right(t, "too many, none out of range", api.Spec{Bits: at(9, n), Vals: append(upward(0, 256), make([]int, n-256)...)}, false)
	}
	right(t, "very many", api.Spec{Bits: at(16, 100000), Vals: make([]int, 100000)}, false)
}

func TestP5_1ValuesAreDifferent(t *testing.T) {
	d := dice(5)
	for _, s := range specs() {
		if len(s.Vals) < 2 {
			continue
		}
		for range 5 {
			i := d.below(len(s.Vals))
			k := (i + 1 + d.below(len(s.Vals)-1)) % len(s.Vals)
			twice := slices.Clone(s.Vals)
			twice[i] = twice[k]
			right(t, "a value twice", api.Spec{Bits: s.Bits, Vals: twice}, false)
		}
	}
	for _, v := range []int{0, 1, 128, 255} {
		right(t, "once", api.Spec{Bits: counts(1), Vals: []int{v}}, true)
		right(t, "twice", api.Spec{Bits: counts(1, 1), Vals: []int{v, v}}, false)
	}
}

func TestP5_1ValuesAreInRange(t *testing.T) {
	for _, v := range []int{-1, -2, -255, -256, math.MinInt, 256, 257, 511, 1 << 16, 1 << 32, math.MaxInt} {
		for i := range 4 {
			l := []int{9, 8, 7, 6}
			l[i] = v
			right(t, fmt.Sprint("with ", v), api.Spec{Bits: counts(1, 0, 3), Vals: l}, false)
		}
		right(t, fmt.Sprint("only ", v), api.Spec{Bits: counts(1), Vals: []int{v}}, false)
	}
	right(t, "bounds", api.Spec{Bits: counts(1, 1), Vals: []int{0, 255}}, true)
}

func TestP5_1CodesAndSpec(t *testing.T) {
	for i, s := range specs() {
		is(t, fmt.Sprint("spec ", i), table(t, s), s)
	}
}

// brightness is the table of differences of brightness that T.81 proposes
// (K.3), with the codes that are printed there.
func brightness() (api.Spec, []string) {
	s := api.Spec{Bits: counts(0, 1, 5, 1, 1, 1, 1, 1, 1), Vals: upward(0, 12)}
	return s, strings.Fields("00 010 011 100 101 110 1110 11110 111110 1111110 11111110 111111110")
}

func TestP5_1CodesAsPrinted(t *testing.T) {
	s, l := brightness()
	h := table(t, s)
	for v, c := range l {
		if bits, n, ok := h.Code(v); bits != number(c) || n != len(c) || !ok {
			t.Error(v, bits, n, ok, "not", c)
		}
	}
}

func TestP5_1CodeOfNoValue(t *testing.T) {
	s, _ := brightness()
	h := table(t, s)
	for _, v := range []int{12, 13, 100, 254, 255, 256, 257, 268, 1 << 32, math.MaxInt, -1, -2, -244, -256, math.MinInt} {
		if bits, n, ok := h.Code(v); bits != 0 || n != 0 || ok {
			t.Error(v, bits, n, ok)
		}
	}
	// The code 0 is one: that its number is 0 tells nothing.
	if bits, n, ok := table(t, api.Spec{Bits: counts(1), Vals: []int{3}}).Code(3); bits != 0 || n != 1 || !ok {
		t.Error("the code 0:", bits, n, ok)
	}
}

func TestP5_1WhatWasHandedInStaysAndIsNotKept(t *testing.T) {
	for i, s := range specs() {
		l := append(slices.Clone(s.Vals), 1, 2, 3)
		given := api.Spec{Bits: s.Bits, Vals: l[:len(s.Vals)]}
		if !huff.Right(given) {
			t.Error(i, "Right")
		}
		h := table(t, given)
		if !same(given, s) || !slices.Equal(l[len(s.Vals):], []int{1, 2, 3}) {
			t.Error(i, "changed:", given, l)
		}
		overwrite(l)
		is(t, "written over", h, s)
	}
}

func TestP5_1SpecIsNewMemory(t *testing.T) {
	for _, s := range specs() {
		h := table(t, s)
		first, second := h.Spec(), h.Spec()
		overwrite(first.Vals)
		if !same(second, s) {
			t.Error("two results share memory")
		}
		overwrite(second.Vals)
		is(t, "written over", h, s)
	}
}

func TestP5_1TablesAreIndependent(t *testing.T) {
	l := specs()
	var tables []*huff.Table
	var copies []huff.Table
	for _, s := range l {
		tables = append(tables, table(t, s))
		copies = append(copies, *tables[len(tables)-1])
	}
	other := table(t, l[0])
	for i, s := range l {
		is(t, "one of many", tables[i], s)
		*tables[i] = *other
		is(t, "a copy", &copies[i], s)
		is(t, "set to another", tables[i], l[0])
	}
}

func TestP5_1ANilTable(t *testing.T) {
	var h *huff.Table
	for _, v := range []int{-1, 0, 1, 255, 256, math.MaxInt, math.MinInt} {
		if bits, n, ok := h.Code(v); bits != 0 || n != 0 || ok {
			t.Error("Code", v, bits, n, ok)
		}
	}
	if s := h.Spec(); s.Bits != [16]int{} || len(s.Vals) != 0 {
		t.Error("Spec:", s)
	}
}

// holds compares a writer with the bits that it should hold.
func holds(t *testing.T, what string, w *bits.Writer, s string) {
	t.Helper()
	if n := w.Count(); n != len(s) {
		t.Error(what, "Count:", n, "not", len(s))
	}
	if b := w.Bytes(); !bytes.Equal(b, scan(s)) {
		t.Errorf("%s Bytes: %x, not %x", what, b, scan(s))
	}
}

func TestP5_2PutAppendsCodes(t *testing.T) {
	d := dice(6)
	for i, s := range specs() {
		h := table(t, s)
		l := codes(s)
		w := bits.NewWriter()
		w.Put(5, 3)
		want := "101"
		for range 40 {
			if v := d.below(256); !slices.Contains(s.Vals, v) {
				if e := h.Put(w, v); e != api.ErrCode {
					t.Error(i, "Put of a value without a code:", e)
				}
			}
			k := d.below(len(l))
			if e := h.Put(w, s.Vals[k]); e != api.OK {
				t.Error(i, "Put:", e)
			}
			want += l[k]
			holds(t, fmt.Sprint("spec ", i), w, want)
		}
	}
}

func TestP5_2PutOfValuesWithoutACode(t *testing.T) {
	s, l := brightness()
	h := table(t, s)
	w := bits.NewWriter()
	h.Put(w, 4)
	for _, v := range []int{12, 13, 255, 256, 257, 1 << 32, math.MaxInt, -1, -256, math.MinInt} {
		if e := h.Put(w, v); e != api.ErrCode {
			t.Error(v, e)
		}
		holds(t, "refused", w, l[4])
	}
	if e := h.Put(w, 11); e != api.OK {
		t.Error(e)
	}
	holds(t, "gone on", w, l[4]+l[11])
}

func TestP5_2PutWithNil(t *testing.T) {
	s, _ := brightness()
	h := table(t, s)
	var none *huff.Table
	if e := h.Put(nil, 3); e != api.ErrShort {
		t.Error("no writer:", e)
	}
	if e := h.Put(nil, 12); e != api.ErrCode {
		t.Error("no writer and no code:", e)
	}
	if e := none.Put(nil, 3); e != api.ErrCode {
		t.Error("no table and no writer:", e)
	}
	w := bits.NewWriter()
	for _, v := range []int{0, 3, 255, -1, math.MinInt} {
		if e := none.Put(w, v); e != api.ErrCode {
			t.Error("no table:", e)
		}
	}
	holds(t, "no table", w, "")
}

// get reads a value, and holds what comes against what must.
func get(t *testing.T, what string, h *huff.Table, r *bits.Reader, want int, e api.Errno, at int) {
	t.Helper()
	if v, f := h.Get(r); v != want || f != e || r.At() != at {
		t.Errorf("%s: Get: %d %d, At %d; not %d %d, At %d", what, v, f, r.At(), want, e, at)
	}
}

func TestP5_2GetOneValueAfterAnother(t *testing.T) {
	h := table(t, api.Spec{Bits: counts(1, 0, 2), Vals: []int{7, 5, 9}})
	r := bits.NewReader([]byte{0b0_100_101_0, 0b101_0_0_100}) // by value 7 5 9 7, 9 7 7 5
	for i, v := range []int{7, 5, 9, 7, 9, 7, 7, 5} {
		get(t, "values", h, r, v, api.OK, 1+i/4)
	}
	get(t, "at the end", h, r, 0, api.ErrShort, 2)
}

func TestP5_2GetACodeAtEachPlaceInAByte(t *testing.T) {
	for i, s := range specs() {
		h := table(t, s)
		l := codes(s)
		for _, k := range []int{0, len(l) / 2, len(l) - 1} {
			for ahead := range 8 {
				for _, with := range []string{"0", "1"} {
					b := scan(strings.Repeat(with, ahead) + l[k])
					r := bits.NewReader(b)
					r.Get(ahead)
					get(t, fmt.Sprint("spec ", i), h, r, s.Vals[k], api.OK, len(b))
					if n := r.Skip(); n != 7-(ahead+len(l[k])+7)%8 {
						t.Error(i, "bits left:", n)
					}
				}
			}
		}
	}
}

func TestP5_2GetOverStuffedBytes(t *testing.T) {
	h := table(t, api.Spec{Bits: stairs(16), Vals: upward(100, 16)})
	r := bits.NewReader([]byte{0xff, 0, 0xfe, 0xff, 0, 0x7f, 0xff, 0})
	get(t, "16 bits", h, r, 115, api.OK, 3)
	get(t, "9 bits", h, r, 108, api.OK, 6)
	get(t, "15 bits, and no more", h, r, 0, api.ErrShort, 8)
	if n := r.Skip(); n != 0 {
		t.Error("bits left:", n)
	}
	get(t, "again", h, r, 0, api.ErrShort, 8)
}

func TestP5_2GetAtTheEnd(t *testing.T) {
	h := table(t, api.Spec{Bits: counts(1, 0, 2), Vals: []int{7, 5, 9}})
	for _, c := range []struct {
		b  []byte
		at int
	}{{nil, 0}, {[]byte{}, 0}, {[]byte{0xff}, 0}} {
		get(t, fmt.Sprint("nothing in ", c.b), h, bits.NewReader(c.b), 0, api.ErrShort, c.at)
	}
	r := bits.NewReader([]byte{0b100_101_10}) // 10 begins a code
	get(t, "first", h, r, 5, api.OK, 1)
	get(t, "second", h, r, 9, api.OK, 1)
	get(t, "the beginning of a code", h, r, 0, api.ErrShort, 1)
	if n := r.Skip(); n != 0 {
		t.Error("bits that were read did not stay read:", n)
	}
	r = bits.NewReader([]byte{0b100_101_10, 0xff})
	get(t, "first", h, r, 5, api.OK, 1)
	get(t, "second", h, r, 9, api.OK, 1)
	get(t, "a half byte ff", h, r, 0, api.ErrShort, 1)
	if n := r.Skip(); n != 0 {
		t.Error("bits that were read did not stay read:", n)
	}
}

func TestP5_2GetAtAMarker(t *testing.T) {
	h := table(t, api.Spec{Bits: counts(1, 0, 2), Vals: []int{7, 5, 9}})
	for _, m := range []byte{0x01, 0x7f, 0xd0, 0xd9, 0xfe, 0xff} {
		get(t, "ahead of any code", h, bits.NewReader([]byte{0xff, m}), 0, api.ErrMark, 0)
		r := bits.NewReader([]byte{0b0_101_0_0_10, 0xff, m, 0x00}) // 10 begins a code
		for _, v := range []int{7, 9, 7, 7} {
			get(t, "values", h, r, v, api.OK, 1)
		}
		get(t, "a marker within a code", h, r, 0, api.ErrMark, 1)
		if n := r.Skip(); n != 0 {
			t.Error("bits that were read did not stay read:", n)
		}
		get(t, "still there", h, r, 0, api.ErrMark, 1)
		if m == 0xff {
			continue
		}
		if n, e := r.Marker(); n != int(m) || e != api.OK {
			t.Error("the marker:", n, e)
		}
		get(t, "behind the marker", h, r, 7, api.OK, 4)
	}
}

func TestP5_2SixteenBitsThatAreNoCode(t *testing.T) {
	d := dice(7)
	for i, s := range specs() {
		h := table(t, s)
		first := codes(s)[0]
		for ahead := range 9 {
			// What begins with none of the codes is what comes behind the last.
			no := 1<<16 - 1 - d.below(1<<16-share(s.Bits))
			text := strings.Repeat("10", 8)[:ahead] + fmt.Sprintf("%016b", no) + first
			r := bits.NewReader(scan(text))
			r.Get(ahead)
			get(t, fmt.Sprint("spec ", i, " no code"), h, r, 0, api.ErrCode, within(text, ahead+16))
			get(t, fmt.Sprint("spec ", i, " behind it"), h, r, s.Vals[0], api.OK, len(scan(text)))
		}
	}
}

func TestP5_2FifteenBitsThatAreNoCode(t *testing.T) {
	h := table(t, api.Spec{Bits: counts(1), Vals: []int{7}})
	text := strings.Repeat("1", 15)
	r := bits.NewReader(append(scan("0"+text), 0xff, 0xd9))
	get(t, "ahead", h, r, 7, api.OK, 1)
	get(t, "15 bits and a marker", h, r, 0, api.ErrMark, 3)
	r = bits.NewReader(scan("0" + text))
	get(t, "ahead", h, r, 7, api.OK, 1)
	get(t, "15 bits and the end", h, r, 0, api.ErrShort, 3)
}

func TestP5_2GetWithNil(t *testing.T) {
	s, _ := brightness()
	h := table(t, s)
	var none *huff.Table
	if v, e := h.Get(nil); v != 0 || e != api.ErrShort {
		t.Error("no reader:", v, e)
	}
	if v, e := none.Get(nil); v != 0 || e != api.ErrCode {
		t.Error("no table and no reader:", v, e)
	}
	r := bits.NewReader([]byte{0xa5, 0x5a, 0xc3})
	get(t, "no table", none, r, 0, api.ErrCode, 0)
	if n, e := r.Get(24); n != 0xa55ac3 || e != api.OK {
		t.Error("a reader that no table has read from:", n, e)
	}
}

// expected is the value of the code with which some bits begin, and how many
// bits are read; -1 if it is none of them.
func expected(s api.Spec, l []string, text string) (int, int) {
	for i, c := range l {
		if strings.HasPrefix(text, c) {
			return s.Vals[i], len(c)
		}
	}
	return -1, min(16, len(text))
}

func TestP5_2GetAsTheListOfCodesTells(t *testing.T) {
	d := dice(8)
	for i, s := range specs() {
		h := table(t, s)
		l := codes(s)
		var b strings.Builder
		rare := 2 + d.below(8)
		for range 8 * (1 + d.below(60)) {
			if d.below(rare) == 0 {
				b.WriteByte('0')
			} else {
				b.WriteByte('1')
			}
		}
		text := b.String()
		end := []byte{0xff, 0xd9}[:2*d.below(2)]
		r := bits.NewReader(append(scan(text), end...))
		for read := 0; read < len(text); {
			want, n := expected(s, l, text[read:])
			e := api.OK
			switch {
			case want < 0 && n == 16:
				want, e = 0, api.ErrCode
			case want < 0 && len(end) > 0:
				want, e = 0, api.ErrMark
			case want < 0:
				want, e = 0, api.ErrShort
			}
			read += n
			get(t, fmt.Sprint("spec ", i), h, r, want, e, within(text, read))
		}
	}
}

func TestP5_3NoCodeIsAPrefixOfAnother(t *testing.T) {
	for i, s := range specs() {
		h := table(t, s)
		var l []string
		for _, v := range s.Vals {
			bits, n, ok := h.Code(v)
			if !ok || n < 1 || n > 16 || bits < 0 || bits > 1<<n-2 {
				t.Fatal(i, "Code:", v, bits, n, ok)
			}
			l = append(l, fmt.Sprintf("%0*b", n, bits))
		}
		// In the order of texts, a beginning comes just ahead of what begins
		// with it.
		slices.Sort(l)
		for k := 1; k < len(l); k++ {
			if strings.HasPrefix(l[k], l[k-1]) {
				t.Error(i, l[k-1], "begins", l[k])
			}
		}
	}
}

func TestP5_4ValuesThatWerePutAreReadBack(t *testing.T) {
	d := dice(9)
	for i, s := range specs() {
		h := table(t, s)
		l := append(slices.Clone(s.Vals), s.Vals...)
		for range 300 {
			l = append(l, s.Vals[d.below(len(s.Vals))])
		}
		w := bits.NewWriter()
		for _, v := range l {
			if e := h.Put(w, v); e != api.OK {
				t.Fatal(i, "Put:", v, e)
			}
		}
		r := bits.NewReader(w.Bytes())
		for k, want := range l {
			if v, e := h.Get(r); v != want || e != api.OK {
				t.Fatal(i, "Get:", k, v, e, "not", want)
			}
		}
		if n := r.Skip(); n > 7 || r.At() != len(w.Bytes()) {
			t.Error(i, "bits left:", n, "At", r.At(), "of", len(w.Bytes()))
		}
	}
}

func TestP5_4ValuesOfTwoTablesAndBitsBetween(t *testing.T) {
	d := dice(10)
	for range 40 {
		a, b := sparse(&d), full(&d)
		h, k := table(t, a), table(t, b)
		w := bits.NewWriter()
		for i := range 200 {
			h.Put(w, a.Vals[i%len(a.Vals)])
			w.Put(i%32, 5)
			k.Put(w, b.Vals[i%len(b.Vals)])
		}
		r := bits.NewReader(w.Bytes())
		for i := range 200 {
			v, e := h.Get(r)
			n, f := r.Get(5)
			u, g := k.Get(r)
			if v != a.Vals[i%len(a.Vals)] || n != i%32 || u != b.Vals[i%len(b.Vals)] || e != api.OK || f != api.OK || g != api.OK {
				t.Fatal(i, v, n, u, e, f, g)
			}
		}
	}
}
