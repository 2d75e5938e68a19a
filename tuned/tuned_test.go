package tuned_test

import (
	"fmt"
	"math"
	"slices"
	"testing"

	"clerestory/api"
	"clerestory/bits"
	"clerestory/huff"
	"clerestory/tuned"
)

// most is the greatest count.
const most = 1 << 40

// dice is a source of numbers that are the same in every run.
type dice uint64

// below is the next number, less than n.
func (d *dice) below(n int) int {
	*d = *d*6364136223846793005 + 1442695040888963407
	return int(uint64(*d)>>33) % n
}

// alike is n times the same count.
func alike(n, count int) []int {
	l := make([]int, n)
	for i := range l {
		l[i] = count
	}
	return l
}

// upward is n values, from 0 on.
func upward(n int) []int {
	l := make([]int, n)
	for i := range l {
		l[i] = i
	}
	return l
}

// powers is 1, 2, 4, and so on.
func powers(n int) []int {
	l := make([]int, n)
	for i := range l {
		l[i] = 1 << i
	}
	return l
}

// fibonacci is 1, 2, 3, 5, and so on.
func fibonacci(n int) []int {
	l := make([]int, n)
	a, b := 1, 2
	for i := range l {
		l[i] = a
		a, b = b, a+b
	}
	return l
}

// shuffled is some numbers in a random order.
func shuffled(l []int, d *dice) []int {
	l = slices.Clone(l)
	for i := range l {
		k := i + d.below(len(l)-i)
		l[i], l[k] = l[k], l[i]
	}
	return l
}

// spread is some counts in a random order, with counts 0 between them.
func spread(l []int, n int, d *dice) []int {
	return shuffled(append(slices.Clone(l), make([]int, n-len(l))...), d)
}

// few is n counts less than a bound, not all 0.
func few(n, bound int, d *dice) []int {
	l := alike(n, 0)
	for i := range l {
		l[i] = d.below(bound)
	}
	l[d.below(n)] = max(1, bound-1)
	return l
}

// steep is 1 to 256 counts of which few are great.
func steep(d *dice) []int {
	l := make([]int, 1+d.below(256))
	for i := range l {
		l[i] = (1 + d.below(1<<30)) << 10 >> d.below(42)
	}
	l[d.below(len(l))] = most
	return l
}

// samples is counts of many forms.
func samples() [][]int {
	d := dice(1)
	var l [][]int
	for n := 1; n <= 256; n++ {
		l = append(l, alike(n, 1), alike(n, 1+d.below(most)))
	}
	for n := 1; n <= 41; n++ {
		l = append(l, powers(n), shuffled(powers(n), &d), spread(powers(n), 256, &d))
	}
	for n := 1; n <= 58; n++ {
		l = append(l, fibonacci(n), shuffled(fibonacci(n), &d), spread(fibonacci(n), 100, &d))
		l = append(l, spread(append(alike(256-n, 1), fibonacci(n)...), 256, &d))
		l = append(l, spread(append(alike(100, most), fibonacci(n)...), 200, &d))
	}
	for _, bound := range []int{2, 3, 5, 20, 1000, 1 << 20, 1 << 30} {
		for range 15 {
			l = append(l, few(1+d.below(256), bound, &d))
		}
	}
	for range 60 {
		l = append(l, steep(&d))
	}
	return l
}

// tree is values that were joined, and the sum of their counts.
type tree struct {
	sum    int
	values []int
}

// ahead compares trees by which of them goes first.
func ahead(a, b tree) int {
	if a.sum != b.sum {
		return a.sum - b.sum
	}
	return slices.Max(b.values) - slices.Max(a.values)
}

// grown is the length of each value with a count, and of value 256, before
// limiting: the words of the document on lists of values.
func grown(counts []int) map[int]int {
	l := []tree{{1, []int{256}}}
	lengths := map[int]int{256: 0}
	for v, count := range counts {
		if count > 0 {
			l = append(l, tree{count, []int{v}})
			lengths[v] = 0
		}
	}
	for len(l) > 1 {
		slices.SortFunc(l, ahead)
		joined := tree{l[0].sum + l[1].sum, slices.Concat(l[0].values, l[1].values)}
		for _, v := range joined.values {
			lengths[v]++
		}
		l = append(l[2:], joined)
	}
	return lengths
}

// longest is the greatest length.
func longest(lengths map[int]int) int {
	n := 0
	for _, x := range lengths {
		n = max(n, x)
	}
	return n
}

// limited is lengths after limiting, and how often a pair was taken away: the
// words of the document on a list of lengths, the greatest in front.
func limited(lengths map[int]int) ([]int, int) {
	var l []int
	for _, x := range lengths {
		l = append(l, x)
	}
	slices.SortFunc(l, func(a, b int) int { return b - a })
	times := 0
	for ; l[0] > 16; times++ {
		i := l[0]
		k := slices.IndexFunc(l, func(x int) bool { return x < i-1 })
		j := l[k]
		l[0], l[1], l[k] = i-1, j+1, j+1
		slices.SortFunc(l, func(a, b int) int { return b - a })
	}
	return l, times
}

// model is the spec that the document asks for.
func model(counts []int) api.Spec {
	lengths := grown(counts)
	l, _ := limited(lengths)
	var s api.Spec
	for _, n := range l[1:] { // the first one is that of value 256
		s.Bits[n-1]++
	}
	for v := range counts {
		if counts[v] > 0 {
			s.Vals = append(s.Vals, v)
		}
	}
	slices.SortStableFunc(s.Vals, func(a, b int) int { return lengths[a] - lengths[b] })
	return s
}

// same compares specs.
func same(a, b api.Spec) bool {
	return a.Bits == b.Bits && slices.Equal(a.Vals, b.Vals)
}

// tune is the spec of counts, of which there must be one.
func tune(t *testing.T, counts []int) api.Spec {
	t.Helper()
	s, e := tuned.Spec(counts)
	if e != api.OK {
		t.Fatal("Spec:", e, counts)
	}
	return s
}

// suits holds the spec of counts against what it must be: how many codes there
// are of each length from 1 bit on, and their values.
func suits(t *testing.T, what string, counts []int, numbers []int, values []int) {
	t.Helper()
	want := api.Spec{Vals: values}
	copy(want.Bits[:], numbers)
	if s := tune(t, counts); !same(s, want) {
		t.Error(what, s, "not", want)
	}
}

// refused holds that counts have no spec.
func refused(t *testing.T, what string, counts []int) {
	t.Helper()
	s, e := tuned.Spec(counts)
	if e != api.ErrRange || s.Bits != [16]int{} || len(s.Vals) != 0 {
		t.Error(what, "Spec:", s, e)
	}
}

func TestExample1(t *testing.T) {
	suits(t, "a single value", []int{1}, []int{1}, []int{0})
	suits(t, "5, 1, 1", []int{5, 1, 1}, []int{1, 1, 1}, []int{0, 1, 2})
}

func TestP6_1NoCounts(t *testing.T) {
	refused(t, "nil", nil)
	refused(t, "empty", []int{})
	refused(t, "empty, with spare capacity", []int{1, 2, 3}[:0])
}

func TestP6_1TooManyCounts(t *testing.T) {
	for _, n := range []int{257, 258, 512, 100000} {
		refused(t, "alike", alike(n, 1))
		refused(t, "all 0", alike(n, 0))
		refused(t, "0 from the last on that may be", append(alike(256, 1), alike(n-256, 0)...))
		refused(t, "a single one", append(alike(n-1, 0), 1))
	}
}

func TestP6_1CountsOutOfRange(t *testing.T) {
	for _, x := range []int{-1, -2, -256, -most, math.MinInt, math.MinInt + 1, most + 1, most + 2, 1 << 41, 1 << 62, math.MaxInt} {
		refused(t, fmt.Sprint("only ", x), []int{x})
		for _, n := range []int{2, 3, 17, 255, 256} {
			for _, i := range []int{0, 1, n / 2, n - 1} {
				for _, others := range []int{0, 1, most} {
					l := alike(n, others)
					l[i] = x
					refused(t, fmt.Sprint(x, " at ", i, " of ", n), l)
				}
			}
		}
	}
}

func TestP6_1AllCounts0(t *testing.T) {
	for n := 1; n <= 256; n++ {
		refused(t, fmt.Sprint(n), alike(n, 0))
	}
}

func TestP6_1ASingleValue(t *testing.T) {
	for n := 1; n <= 256; n++ {
		for _, i := range []int{0, n / 2, n - 1} {
			for _, count := range []int{1, 2, 1000, most - 1, most} {
				l := alike(n, 0)
				l[i] = count
				suits(t, fmt.Sprint(i, " of ", n), l, []int{1}, []int{i})
			}
		}
	}
}

// These are worked out by hand.
func TestP6_1TheGreatestValueGoesFirst(t *testing.T) {
	suits(t, "256 and 2, 1 and 0", []int{1, 1, 1}, []int{0, 3}, []int{0, 1, 2})
	suits(t, "the tree of 256 goes ahead of 1 and 2", []int{1, 1, 1, 1}, []int{0, 3, 1}, []int{0, 1, 2, 3})
	suits(t, "the tree of 256 goes ahead of value 2", []int{1, 1, 2}, []int{1, 1, 1}, []int{2, 0, 1})
	suits(t, "value 1 goes ahead of 0", []int{2, 2, 1}, []int{1, 1, 1}, []int{0, 1, 2})
	// 256 and 6 are joined (3), and 5 and 2 (4). The tree of these two goes
	// ahead of value 4, because 5 is greater.
	suits(t, "2 and 5 go ahead of 4", []int{0, 0, 2, 0, 4, 2, 2}, []int{1, 0, 3}, []int{4, 2, 5, 6})
}

func TestP6_1CountsAlike(t *testing.T) {
	for _, count := range []int{1, 2, 3, 1000, most} {
		suits(t, "7", alike(7, count), []int{0, 0, 7}, upward(7))
		suits(t, "8", alike(8, count), []int{0, 0, 7, 1}, upward(8))
		suits(t, "127", alike(127, count), []int{0, 0, 0, 0, 0, 0, 127}, upward(127))
		suits(t, "255", alike(255, count), []int{0, 0, 0, 0, 0, 0, 0, 255}, upward(255))
		suits(t, "256", alike(256, count), []int{0, 0, 0, 0, 0, 0, 0, 255, 1}, upward(256))
	}
}

func TestP6_1Counts0HaveNoCode(t *testing.T) {
	suits(t, "5, 1, 1 among 0", []int{0, 5, 0, 0, 1, 1, 0}, []int{1, 1, 1}, []int{1, 4, 5})
	suits(t, "the last of 256", append(alike(253, 0), 1, 1, 5), []int{1, 1, 1}, []int{255, 253, 254})
}

func TestP6_1OrderOfValues(t *testing.T) {
	suits(t, "downward", []int{1, 2, 4, 8, 16}, []int{1, 1, 1, 1, 1}, []int{4, 3, 2, 1, 0})
	suits(t, "upward", []int{16, 8, 4, 2, 1}, []int{1, 1, 1, 1, 1}, []int{0, 1, 2, 3, 4})
	suits(t, "of equal lengths", []int{1, 9, 1, 9, 1, 9}, []int{0, 3, 0, 3}, []int{1, 3, 5, 0, 2, 4})
}

func TestP6_1NotLimitedAt16Bits(t *testing.T) {
	suits(t, "16", powers(16), []int{1, 1, 1, 1, 1, 1, 1, 1, 1, 1, 1, 1, 1, 1, 1, 1}, []int{15, 14, 13, 12, 11, 10, 9, 8, 7, 6, 5, 4, 3, 2, 1, 0})
}

// Before limiting, there are one of each length and two of the last one. Of 17
// bits, these two become one of 16, and that of 15 two of 16; so there are four
// of 16, one of them that of value 256.
func TestP6_1LimitedOnce(t *testing.T) {
	down := []int{16, 15, 14, 13, 12, 11, 10, 9, 8, 7, 6, 5, 4, 3, 2, 1, 0}
	suits(t, "17", powers(17), []int{1, 1, 1, 1, 1, 1, 1, 1, 1, 1, 1, 1, 1, 1, 0, 3}, down)
	slices.Reverse(down)
	l := powers(17)
	slices.Reverse(l)
	suits(t, "17, upward", l, []int{1, 1, 1, 1, 1, 1, 1, 1, 1, 1, 1, 1, 1, 1, 0, 3}, down)
}

// From 18 bits on: the two of 18 become one of 17, and that of 16 two of 17;
// there are four of 17 then. Two become one of 16, and that of 15 two of 16;
// the other two become one of 16, and that of 14 two of 15. So 14 is left
// empty, and there are two of 15 and four of 16.
func TestP6_1LimitedMoreThanOnce(t *testing.T) {
	suits(t, "18", powers(18), []int{1, 1, 1, 1, 1, 1, 1, 1, 1, 1, 1, 1, 1, 0, 2, 3}, []int{17, 16, 15, 14, 13, 12, 11, 10, 9, 8, 7, 6, 5, 4, 3, 2, 1, 0})
}

// The order is that of the lengths before limiting, though afterwards those of
// 17 and 18 bits are alike.
func TestP6_1OrderIsThatBeforeLimiting(t *testing.T) {
	for n := 17; n <= 41; n++ {
		s := tune(t, powers(n))
		want := upward(n)
		slices.Reverse(want)
		if !slices.Equal(s.Vals, want) {
			t.Error(n, s.Vals)
		}
	}
}

func TestP6_1AsTheModelTells(t *testing.T) {
	times := map[int]int{}
	for i, counts := range samples() {
		if s, want := tune(t, counts), model(counts); !same(s, want) {
			t.Error(i, counts, s, "not", want)
		}
		_, n := limited(grown(counts))
		times[min(n, 10)]++
	}
	if times[0] < 100 || times[1] == 0 || times[3] == 0 || times[10] < 100 {
		t.Error("limited how often:", times)
	}
}

// exhausted calls f with all lists of n counts up to a bound.
func exhausted(n, bound int, f func([]int)) {
	l := make([]int, n)
	for {
		if slices.Max(l) > 0 {
			f(l)
		}
		i := 0
		for i < n && l[i] == bound {
			l[i] = 0
			i++
		}
		if i == n {
			return
		}
		l[i]++
	}
}

func TestP6_1AsTheModelTellsOfAllSmallCounts(t *testing.T) {
	for n := 1; n <= 5; n++ {
		exhausted(n, 4, func(counts []int) {
			if s, want := tune(t, counts), model(counts); !same(s, want) {
				t.Error(counts, s, "not", want)
			}
		})
	}
}

// spared is numbers with some spare capacity behind them, which is 7s.
func spared(l []int) []int {
	return append(slices.Clone(l), 7, 7, 7)[:len(l)]
}

// unchanged tells whether spared numbers are those that they were made of.
func unchanged(l, was []int) bool {
	return slices.Equal(l, was) && slices.Equal(l[:len(l)+3][len(l):], []int{7, 7, 7})
}

func TestP6_1CountsStayAsTheyWere(t *testing.T) {
	all := append(samples(), nil, alike(256, 0), alike(257, 1), []int{3, -1}, []int{most + 1, 2})
	for i, was := range all {
		counts := spared(was)
		want, e := tuned.Spec(was)
		if s, f := tuned.Spec(counts); !same(s, want) || f != e || !unchanged(counts, was) {
			t.Error(i, "Spec:", s, f, counts)
		}
		tuned.Cost(want, counts)
		if !unchanged(counts, was) {
			t.Error(i, "Cost:", counts)
		}
	}
}

func TestP6_1SpecIsNewMemory(t *testing.T) {
	for i, counts := range samples() {
		was := slices.Clone(counts)
		first, second := tune(t, counts), tune(t, counts)
		want := slices.Clone(second.Vals)
		l := first.Vals[:cap(first.Vals)]
		for k := range l {
			l[k] = -7
		}
		if !slices.Equal(second.Vals, want) || !slices.Equal(counts, was) || !slices.Equal(tune(t, counts).Vals, want) {
			t.Error(i, "shared memory")
		}
	}
}

// costs holds a cost against what it must be.
func costs(t *testing.T, what string, s api.Spec, counts []int, want int, e api.Errno) {
	t.Helper()
	if n, f := tuned.Cost(s, counts); n != want || f != e {
		t.Error(what, "Cost:", n, f, "not", want, e)
	}
}

// spec is a spec of how many codes there are from 1 bit on.
func spec(values []int, numbers ...int) api.Spec {
	s := api.Spec{Vals: values}
	copy(s.Bits[:], numbers)
	return s
}

// wrong is specs that are not valid.
func wrong() []api.Spec {
	return []api.Spec{
		{},
		spec([]int{0, 1}, 2),
		spec([]int{0, 1, 2}, 1, 2),
		spec([]int{0, 1}, 1),
		spec([]int{0}, 1, 1),
		spec([]int{3, 3}, 1, 1),
		spec([]int{256}, 1),
		spec([]int{-1}, 1),
		spec([]int{1}, -1, 2),
		spec(upward(257), 0, 0, 0, 0, 0, 0, 0, 0, 257),
	}
}

func TestP6_1Cost(t *testing.T) {
	s := spec([]int{0, 1, 2}, 1, 1, 1)
	costs(t, "5, 1, 1", s, []int{5, 1, 1}, 5+2+3, api.OK)
	costs(t, "0 as well", s, []int{0, 10, 100, 0, 0}, 20+300, api.OK)
	costs(t, "fewer counts than values", s, []int{7}, 7, api.OK)
	s = spec([]int{9, 4, 200}, 0, 2, 0, 0, 0, 0, 0, 0, 0, 0, 0, 0, 0, 0, 0, 1)
	l := alike(256, 0)
	l[9], l[4], l[200] = 3, 50, 700
	costs(t, "2 and 16 bits", s, l, 6+100+700*16, api.OK)
}

func TestP6_1CostOfCountsOutOfRange(t *testing.T) {
	all := append(wrong(), spec([]int{0}, 1), spec(upward(256), 0, 0, 0, 0, 0, 0, 0, 0, 256))
	for i, s := range all {
		what := fmt.Sprint("spec ", i)
		costs(t, what, s, nil, 0, api.ErrRange)
		costs(t, what, s, []int{}, 0, api.ErrRange)
		for _, n := range []int{257, 258, 1000} {
			costs(t, what, s, alike(n, 0), 0, api.ErrRange)
			costs(t, what, s, alike(n, 1), 0, api.ErrRange)
		}
		for _, x := range []int{-1, -most, math.MinInt, most + 1, 1 << 62, math.MaxInt} {
			for _, k := range []int{0, 1, 100, 255} {
				for _, others := range []int{0, 1} {
					l := alike(256, others)
					l[k] = x
					costs(t, what, s, l, 0, api.ErrRange)
				}
			}
		}
	}
}

func TestP6_1CostOfSpecsThatAreNotValid(t *testing.T) {
	for i, s := range wrong() {
		what := fmt.Sprint("spec ", i)
		costs(t, what, s, []int{1}, 0, api.ErrForm)
		costs(t, what, s, []int{0}, 0, api.ErrForm)
		costs(t, what, s, alike(256, 0), 0, api.ErrForm)
		costs(t, what+", and values without a code", s, alike(256, most), 0, api.ErrForm)
	}
}

func TestP6_1CostOfCountsThatAreAll0(t *testing.T) {
	for n := 1; n <= 256; n++ {
		costs(t, "some values", spec([]int{3, 5}, 1, 1), alike(n, 0), 0, api.OK)
		costs(t, "all values", spec(upward(256), 0, 0, 0, 0, 0, 0, 0, 0, 256), alike(n, 0), 0, api.OK)
	}
}

func TestP6_1CostOfValuesWithoutACode(t *testing.T) {
	s := spec([]int{0, 7, 254}, 1, 1, 1)
	for v := range 256 {
		l := alike(256, 0)
		l[0], l[7], l[254] = 10, 10, 10
		costs(t, "values with codes", s, l, 60, api.OK)
		if v == 0 || v == 7 || v == 254 {
			continue
		}
		for _, count := range []int{1, 2, most} {
			l[v] = count
			costs(t, fmt.Sprint("value ", v), s, l, 0, api.ErrCode)
			costs(t, fmt.Sprint("value ", v, " as the last"), s, l[:v+1], 0, api.ErrCode)
		}
	}
}

func TestP6_1CostOfTheGreatestCounts(t *testing.T) {
	s := spec(upward(256), 0, 0, 0, 0, 0, 0, 0, 0, 256)
	costs(t, "9 bits", s, alike(256, most), 9*256*most, api.OK)
	s = spec(upward(256), 0, 0, 0, 0, 0, 0, 0, 0, 0, 0, 0, 0, 0, 0, 0, 256)
	costs(t, "16 bits", s, alike(256, most), 16*256*most, api.OK)
	costs(t, "16 bits, a single one", s, append(alike(255, 0), most), 16*most, api.OK)
	costs(t, "1 bit", spec([]int{0}, 1), []int{most}, most, api.OK)
}

// total is what counts cost with a spec, summed length by length.
func total(s api.Spec, counts []int) int {
	n, k := 0, 0
	for i, number := range s.Bits {
		for _, v := range s.Vals[k : k+number] {
			if v < len(counts) {
				n += counts[v] * (i + 1)
			}
		}
		k += number
	}
	return n
}

func TestP6_1CostIsTheSumOfAllLengths(t *testing.T) {
	for i, counts := range samples() {
		s := tune(t, counts)
		costs(t, fmt.Sprint("sample ", i), s, counts, total(s, counts), api.OK)
		less := counts[:(len(counts)+1)/2]
		costs(t, fmt.Sprint("half of sample ", i), s, less, total(s, less), api.OK)
	}
}

func TestP6_1CostIsTheBitsThatArePut(t *testing.T) {
	d := dice(2)
	for range 30 {
		counts := few(1+d.below(256), 6, &d)
		s := tune(t, counts)
		h, e := huff.New(s)
		if e != api.OK {
			t.Fatal("New:", e)
		}
		w := bits.NewWriter()
		for v, count := range counts {
			for range count {
				if e := h.Put(w, v); e != api.OK {
					t.Fatal("Put:", e)
				}
			}
		}
		costs(t, "put", s, counts, w.Count(), api.OK)
	}
}

func TestP6_1CostChangesNothing(t *testing.T) {
	for i, counts := range samples() {
		s := tune(t, counts)
		given := api.Spec{Bits: s.Bits, Vals: spared(s.Vals)}
		tuned.Cost(given, counts)
		if given.Bits != s.Bits || !unchanged(given.Vals, s.Vals) {
			t.Error(i, given)
		}
	}
}

// covers holds that a spec is valid, and has codes for just the values with a
// count.
func covers(t *testing.T, counts []int) {
	t.Helper()
	s := tune(t, counts)
	h, e := huff.New(s)
	if !huff.Right(s) || e != api.OK {
		t.Fatal("not valid:", counts, s)
	}
	for v := range 256 {
		_, _, ok := h.Code(v)
		if ok != (v < len(counts) && counts[v] > 0) {
			t.Error("value", v, ok, "counts:", counts)
		}
	}
}

func TestP6_2ValidAndForTheValuesWithACount(t *testing.T) {
	for _, counts := range samples() {
		covers(t, counts)
	}
	exhausted(4, 5, func(counts []int) { covers(t, counts) })
}

// optimum is the least that counts may cost, were there no limit: Huffman's
// sums, with a value of no weight for the code of set bits alone.
func optimum(counts []int) int {
	l := []int{0}
	for _, count := range counts {
		if count > 0 {
			l = append(l, count)
		}
	}
	n := 0
	for len(l) > 1 {
		slices.Sort(l)
		joined := l[0] + l[1]
		n += joined
		l = append(l[2:], joined)
	}
	return n
}

func TestP6_3NoneCostsLess(t *testing.T) {
	d := dice(3)
	all := samples()
	for range 1000 {
		all = append(all, few(1+d.below(20), 2+d.below(12), &d))
	}
	tried := 0
	for i, counts := range all {
		if longest(grown(counts)) > 16 {
			continue
		}
		tried++
		costs(t, fmt.Sprint("sample ", i), tune(t, counts), counts, optimum(counts), api.OK)
	}
	if tried < 1500 {
		t.Error("tried only", tried)
	}
}

// valid calls f with all numbers of codes of each length, of n codes in all,
// that a valid spec may have.
func valid(n int, f func([16]int)) {
	var numbers [16]int
	var fill func(i, left int)
	fill = func(i, left int) {
		if left == 0 {
			if huff.Right(api.Spec{Bits: numbers, Vals: upward(n)}) {
				f(numbers)
			}
			return
		}
		if i == 16 {
			return
		}
		for k := 0; k <= left; k++ {
			numbers[i] = k
			fill(i+1, left-k)
		}
		numbers[i] = 0
	}
	fill(0, n)
}

func TestP6_3NoneCostsLessOfAllThatAreValid(t *testing.T) {
	d := dice(4)
	for n := 1; n <= 5; n++ {
		all := [][]int{powers(n), fibonacci(n), alike(n, 1), alike(n, most)}
		for range 40 {
			l := few(n, 1+d.below(12), &d)
			for i := range l {
				l[i]++ // a count of 0 is of fewer values
			}
			all = append(all, l)
		}
		// The less often a value comes, the longer its code may be.
		least := make([]int, len(all))
		for i, counts := range all {
			slices.SortFunc(counts, func(a, b int) int { return b - a })
			least[i] = math.MaxInt
		}
		found := 0
		valid(n, func(numbers [16]int) {
			found++
			for i, counts := range all {
				least[i] = min(least[i], total(api.Spec{Bits: numbers, Vals: upward(n)}, counts))
			}
		})
		if found < n {
			t.Error("valid specs:", found)
		}
		for i, counts := range all {
			counts := shuffled(counts, &d)
			costs(t, fmt.Sprint(n, " counts, sample ", i), tune(t, counts), counts, least[i], api.OK)
		}
	}
}

// What suits other counts is valid, and has codes for these values (and perhaps
// for more) if none of the other counts is less.
func TestP6_3NoTableOfOtherCountsCostsLess(t *testing.T) {
	d := dice(5)
	for range 400 {
		counts := few(1+d.below(256), 2+d.below(1000), &d)
		if longest(grown(counts)) > 16 {
			continue
		}
		least, e := tuned.Cost(tune(t, counts), counts)
		if e != api.OK {
			t.Fatal("Cost:", e)
		}
		others := slices.Clone(counts)
		for i := range others {
			others[i] += d.below(3)
		}
		if n, e := tuned.Cost(tune(t, others), counts); n < least || e != api.OK {
			t.Error(n, e, "less than", least, counts)
		}
	}
}
