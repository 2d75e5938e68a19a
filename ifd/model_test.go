package ifd_test

import (
	"encoding/binary"
	"encoding/hex"
	"fmt"
	"math"
	"slices"
	"strings"
	"testing"

	"clerestory/api"
	"clerestory/ifd"
)

// dice is a source of numbers that are the same in every run.
type dice uint64

// below is the next number, less than n.
func (d *dice) below(n int) int {
	*d = *d*6364136223846793005 + 1442695040888963407
	return int(uint64(*d)>>33) % n
}

// one is any of some numbers.
func (d *dice) one(l ...int) int { return l[d.below(len(l))] }

// raw is bytes that are written as hexadecimal digits.
func raw(texts ...string) []byte {
	b, err := hex.DecodeString(strings.ReplaceAll(strings.Join(texts, ""), " ", ""))
	if err != nil {
		panic(err)
	}
	return b
}

// both runs a test for a TIFF and for a BigTIFF.
func both(t *testing.T, test func(t *testing.T, big bool)) {
	t.Helper()
	t.Run("TIFF", func(t *testing.T) { test(t, false) })
	t.Run("BigTIFF", func(t *testing.T) { test(t, true) })
}

// pick is one of two, by the kind of the file.
func pick[T any](big bool, plain, other T) T {
	if big {
		return other
	}
	return plain
}

// field is a field of some values.
func field(tag, kind int, values ...int) api.Field {
	return api.Field{Tag: tag, Type: kind, Values: values}
}

// upward is n values, from one on, each of them of one byte.
func upward(from, n int) (l []int) {
	for i := range n {
		l = append(l, (from+i)%256)
	}
	return l
}

// copied is a directory of its own memory.
func copied(l []api.Field) []api.Field {
	l = slices.Clone(l)
	for i := range l {
		l[i].Values = slices.Clone(l[i].Values)
	}
	return l
}

// same tells whether two directories are the same.
func same(a, b []api.Field) bool {
	return slices.EqualFunc(a, b, func(a, b api.Field) bool {
		return a.Tag == b.Tag && a.Type == b.Type && slices.Equal(a.Values, b.Values)
	})
}

// sameAll tells whether two chains are the same.
func sameAll(a, b [][]api.Field) bool { return slices.EqualFunc(a, b, same) }

// kinds is the types of fields.
func kinds(big bool) []int {
	return pick(big, []int{1, 2, 3, 4, 7}, []int{1, 2, 3, 4, 7, 16})
}

// width is how many bytes a value of a type has.
func width(kind int) int {
	return map[int]int{1: 1, 2: 1, 3: 2, 4: 4, 7: 1, 16: 8}[kind]
}

// most is the greatest value of a type.
func most(kind int) int {
	return map[int]int{1: 255, 2: 255, 3: 65535, 4: 4294967295, 7: 255, 16: 9007199254740992}[kind]
}

// limit is what all offsets of a file are below.
func limit(big bool) int { return pick(big, 4294967296, 1099511627776) }

// word is how many bytes an offset has.
func word(big bool) int { return pick(big, 4, 8) }

// number is a number as so many bytes.
func number(n uint64, size int) []byte {
	return binary.LittleEndian.AppendUint64(nil, n)[:size]
}

// entry is an entry's bytes: what is in it is a number, whatever it stands for.
func entry(big bool, tag, kind int, count, in uint64) []byte {
	return slices.Concat(number(uint64(tag), 2), number(uint64(kind), 2), number(count, word(big)), number(in, word(big)))
}

// directory is the bytes of a directory up to the offset of the next one.
func directory(big bool, next uint64, entries ...[]byte) []byte {
	b := number(uint64(len(entries)), pick(big, 2, 8))
	b = append(b, slices.Concat(entries...)...)
	return append(b, number(next, word(big))...)
}

// behind8 is a file of eight other bytes and what follows them.
func behind8(parts ...[]byte) []byte {
	return append(raw("a1a2a3a4a5a6a7a8"), slices.Concat(parts...)...)
}

// modelRight is Right by the document's words, asked one field after the other.
func modelRight(l []api.Field, big bool) bool {
	wrong := 0
	count := func(is bool) {
		if is {
			wrong++
		}
	}
	count(len(l) == 0)
	count(len(l) > 32)
	for i, f := range l {
		count(f.Tag < 0 || f.Tag >= 65536)
		count(!slices.Contains(kinds(big), f.Type))
		count(len(f.Values) == 0 || len(f.Values) >= 2049)
		for _, v := range f.Values {
			count(v < 0 || v > most(f.Type))
		}
		for _, earlier := range l[:i] {
			count(earlier.Tag >= f.Tag)
		}
	}
	return wrong == 0
}

// modelPut is the bytes of a valid directory. All places are worked out first,
// and then each number is written where it belongs.
func modelPut(l []api.Field, big bool, at, next int) []byte {
	ahead, each := pick(big, 2, 8), pick(big, 12, 20)
	places := make([]int, len(l))
	end := ahead + each*len(l) + word(big)
	for i, f := range l {
		if length := len(f.Values) * width(f.Type); length > word(big) {
			places[i] = end
			end = (end + length + 1) / 2 * 2
		}
	}
	b := make([]byte, end)
	write := func(place, n, size int) { copy(b[place:place+size], number(uint64(n), size)) }
	write(0, len(l), ahead)
	for i, f := range l {
		start := ahead + each*i
		write(start, f.Tag, 2)
		write(start+2, f.Type, 2)
		write(start+4, len(f.Values), word(big))
		place := places[i]
		if place == 0 {
			place = start + each - word(big)
		} else {
			write(start+each-word(big), at+place, word(big))
		}
		for k, v := range f.Values {
			write(place+k*width(f.Type), v, width(f.Type))
		}
	}
	write(ahead+each*len(l), next, word(big))
	return b
}

// modelGet is Get: numbers have no sign and are looked up where they stand.
func modelGet(file []byte, big bool, at int) ([]api.Field, int, api.Errno) {
	size := uint64(len(file))
	if !modelOffset(uint64(at), big) || at < 0 || at > len(file) {
		return nil, 0, api.ErrRange
	}
	look := func(at uint64, size int) uint64 {
		var b [8]byte
		copy(b[:size], file[at:])
		return binary.LittleEndian.Uint64(b[:])
	}
	w := uint64(word(big))
	p := uint64(at) + pick[uint64](big, 2, 8)
	if size < p {
		return nil, 0, api.ErrShort
	}
	fields := look(uint64(at), pick(big, 2, 8))
	switch {
	case fields > math.MaxInt64:
		return nil, 0, api.ErrRange
	case fields == 0 || fields > 32:
		return nil, 0, api.ErrForm
	}
	var l []api.Field
	for i := range fields {
		if size < p+4+2*w {
			return nil, 0, api.ErrShort
		}
		f := api.Field{Tag: int(look(p, 2)), Type: int(look(p+2, 2))}
		count := look(p+4, int(w))
		from := p + 4 + w
		length := count * uint64(width(f.Type))
		switch {
		case !slices.Contains(kinds(big), f.Type):
			return nil, 0, api.ErrType
		case count > math.MaxInt64:
			return nil, 0, api.ErrRange
		case count == 0 || count > 2048:
			return nil, 0, api.ErrLong
		case length > w:
			from = look(from, int(w))
			if from%2 == 1 || from > size || length > size-from {
				return nil, 0, api.ErrRange
			}
		}
		for k := range count {
			v := look(from+k*uint64(width(f.Type)), width(f.Type))
			if v > 1<<53 {
				return nil, 0, api.ErrRange
			}
			f.Values = append(f.Values, int(v))
		}
		if i > 0 && f.Tag <= l[i-1].Tag {
			return nil, 0, api.ErrForm
		}
		l = append(l, f)
		p += 4 + 2*w
	}
	if size < p+w {
		return nil, 0, api.ErrShort
	}
	next := look(p, int(w))
	if next != 0 && !modelOffset(next, big) {
		return nil, 0, api.ErrRange
	}
	return l, int(next), api.OK
}

// modelOffset tells whether an offset of a directory is valid.
func modelOffset(at uint64, big bool) bool {
	return at&1 == 0 && at > 7 && at < uint64(limit(big))
}

// modelChain is Chain, by a model of Get.
func modelChain(file []byte, big bool, first int) ([][]api.Field, api.Errno) {
	var all [][]api.Field
	for range 8 {
		if first == 0 {
			return all, api.OK
		}
		l, next, e := modelGet(file, big, first)
		if e != api.OK {
			return nil, e
		}
		all = append(all, l)
		first = next
	}
	if first != 0 {
		return nil, api.ErrCycle
	}
	return all, api.OK
}

// modelOpen is Open.
func modelOpen(file []byte) (bool, int, api.Errno) {
	big := strings.HasPrefix(string(file), "II+\x00")
	if len(file) < pick(big, 8, 16) {
		return false, 0, api.ErrShort
	}
	if !strings.HasPrefix(string(file), pick(big, "II*\x00", "II+\x00\b\x00\x00\x00")) {
		return false, 0, api.ErrForm
	}
	first := uint64(binary.LittleEndian.Uint32(file[4:]))
	if big {
		first = binary.LittleEndian.Uint64(file[8:])
	}
	if first != 0 && !modelOffset(first, big) {
		return false, 0, api.ErrRange
	}
	return big, int(first), api.OK
}

// draw is a valid directory at random: most fields have few values, so that
// they lie in their entries as often as not.
func draw(d *dice, big bool) (l []api.Field) {
	tag := d.below(3)
	for range d.one(1, 2, 3, 5, 1+d.below(32)) {
		f := api.Field{Tag: tag, Type: kinds(big)[d.below(len(kinds(big)))]}
		for range d.one(1, 1, 2, 1+d.below(10), 1+d.below(300)) {
			f.Values = append(f.Values, d.one(0, most(f.Type), d.below(256), most(f.Type)-d.below(256), d.below(1<<31)%(most(f.Type)+1)))
		}
		l = append(l, f)
		tag += 1 + d.one(0, 0, 1, d.below(2000))
	}
	return l
}

// told is a short text of a directory, for what a test says.
func told(l []api.Field) string {
	text := fmt.Sprintf("%v", l)
	if len(text) > 300 {
		text = text[:300] + "..."
	}
	return text
}

// checkGet asks for a directory, and holds the answer against what it must be.
func checkGet(t *testing.T, name string, file []byte, big bool, at int, l []api.Field, next int, e api.Errno) {
	t.Helper()
	gotL, gotNext, gotE := ifd.Get(file, big, at)
	if gotE != e || gotNext != next || !same(gotL, l) {
		t.Errorf("%s: Get at %d is %s, %d, %d; it must be %s, %d, %d", name, at, told(gotL), gotNext, gotE, told(l), next, e)
	}
}

// checkModel asks for a directory, and holds the answer against the model.
func checkModel(t *testing.T, name string, file []byte, big bool, at int) {
	t.Helper()
	l, next, e := modelGet(file, big, at)
	checkGet(t, name, file, big, at, l, next, e)
}
