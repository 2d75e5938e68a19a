package segment_test

import (
	"bytes"
	"encoding/hex"
	"fmt"
	"math"
	"regexp"
	"slices"
	"strings"
	"testing"

	"clerestory/api"
	"clerestory/segment"
)

// dice is a source of numbers that are the same in every run.
type dice uint64

// below is the next number, less than n.
func (d *dice) below(n int) int {
	*d = *d*6364136223846793005 + 1442695040888963407
	return int(uint64(*d)>>33) % n
}

// raw is bytes that are written as hexadecimal digits.
func raw(texts ...string) []byte {
	b, err := hex.DecodeString(strings.ReplaceAll(strings.Join(texts, ""), " ", ""))
	if err != nil {
		panic(err)
	}
	return b
}

// filled is a block of one number.
func filled(n int) (b api.Block) {
	for i := range b {
		b[i] = n
	}
	return b
}

// counted is a block of a number and those that follow it.
func counted(from int) (b api.Block) {
	for i := range b {
		b[i] = from + i
	}
	return b
}

// spec is a Huffman table of counts of codes, from 1 bit on, and values.
func spec(counts []int, values ...int) (s api.Spec) {
	copy(s.Bits[:], counts)
	s.Vals = values
	return s
}

// upward is n values, from one on.
func upward(from, n int) (l []int) {
	for i := range n {
		l = append(l, from+i)
	}
	return l
}

// copiedSpec is a Huffman table of its own memory.
func copiedSpec(s api.Spec) api.Spec {
	s.Vals = slices.Clone(s.Vals)
	return s
}

// copiedTables is tables of their own memory.
func copiedTables(t api.Tables) api.Tables {
	for i := range 2 {
		t.DC[i], t.AC[i] = copiedSpec(t.DC[i]), copiedSpec(t.AC[i])
	}
	return t
}

// copiedKnown is what is known, of its own memory.
func copiedKnown(k api.Known) api.Known {
	k.Tables = copiedTables(k.Tables)
	return k
}

// sameSpec tells whether two Huffman tables are the same.
func sameSpec(a, b api.Spec) bool { return a.Bits == b.Bits && slices.Equal(a.Vals, b.Vals) }

// sameTables tells whether tables are the same.
func sameTables(a, b api.Tables) bool {
	same := a.Steps == b.Steps
	for i := range 2 {
		same = same && sameSpec(a.DC[i], b.DC[i]) && sameSpec(a.AC[i], b.AC[i])
	}
	return same
}

// same tells whether the same is known.
func same(a, b api.Known) bool {
	return sameTables(a.Tables, b.Tables) && a.HasSteps == b.HasSteps && a.HasDC == b.HasDC && a.HasAC == b.HasAC &&
		a.Frame == b.Frame && a.Started == b.Started && a.Over == b.Over && a.Scan == b.Scan && a.At == b.At
}

// zigzag is the place in a block of each position of a scan, along the diagonals.
func zigzag() (l []int) {
	for diagonal := range 15 {
		for i := range 8 {
			y := i
			if diagonal%2 == 0 {
				y = 7 - i
			}
			if x := diagonal - y; x >= 0 && x < 8 {
				l = append(l, 8*y+x)
			}
		}
	}
	return l
}

// draw is a valid Huffman table at random, of counts that a byte can tell.
func draw(roll *dice) (s api.Spec) {
	room := 1<<16 - 1
	all := roll.below(3) > 0 // few codes of the least lengths leave room for many values
	for i := range s.Bits {
		most := min(room>>(15-i), 256-len(s.Vals), 255)
		if all && i < 8 {
			most = min(most, 1)
		}
		n := roll.below(most + 1)
		if roll.below(3) == 0 {
			n = 0
		}
		if i == 15 && len(s.Vals) == 0 {
			n = 1
		}
		s.Bits[i] = n
		room -= n << (15 - i)
		s.Vals = append(s.Vals, make([]int, n)...)
	}
	for i := range s.Vals {
		s.Vals[i] = roll.below(256)
		for slices.Contains(s.Vals[:i], s.Vals[i]) {
			s.Vals[i] = (s.Vals[i] + 1) % 256
		}
	}
	return s
}

// drawSteps is steps at random, many of them 1 and 255.
func drawSteps(roll *dice) (b api.Block) {
	for i := range b {
		b[i] = min(max(roll.below(320)-32, 1), 255)
	}
	return b
}

// drawTables is valid tables at random.
func drawTables(roll *dice) (t api.Tables) {
	for i := range 2 {
		t.Steps[i], t.DC[i], t.AC[i] = drawSteps(roll), draw(roll), draw(roll)
	}
	return t
}

// drawScan is a valid header at random.
func drawScan(roll *dice) api.Scan {
	restart := roll.below(1 << 16)
	if roll.below(3) == 0 {
		restart = 0
	}
	return api.Scan{W: 1 + roll.below(128), H: 1 + roll.below(128), Kind: roll.below(4), Restart: restart}
}

// drawBytes is n bytes at random, many of them ff.
func drawBytes(n int, roll *dice) []byte {
	b := make([]byte, n)
	for i := range b {
		b[i] = byte(max(roll.below(320)-64, 0))
		if roll.below(5) == 0 {
			b[i] = 255
		}
	}
	return b
}

// seg is a segment.
func seg(code byte, body ...byte) []byte {
	n := 2 + len(body)
	return slices.Concat([]byte{0xff, code, byte(n / 256), byte(n % 256)}, body)
}

// stream is what begins with ff d8 and goes on with some segments.
func stream(segments ...[]byte) []byte {
	return slices.Concat(raw("ff d8"), slices.Concat(segments...))
}

// end is the end of a stream.
var end = raw("ff d9")

// tellSteps is steps as db tells them, by the document.
func tellSteps(name byte, b api.Block) []byte {
	out := []byte{name}
	for _, place := range zigzag() {
		out = append(out, byte(b[place]))
	}
	return out
}

// tellSpec is a Huffman table as c4 tells it, by the document.
func tellSpec(name byte, s api.Spec) []byte {
	out := []byte{name}
	for _, n := range slices.Concat(s.Bits[:], s.Vals) {
		out = append(out, byte(n))
	}
	return out
}

// tellTables is a stream of tables, by the document.
func tellTables(t api.Tables, colour bool) []byte {
	steps := tellSteps(0, t.Steps[0])
	specs := slices.Concat(tellSpec(0x00, t.DC[0]), tellSpec(0x10, t.AC[0]))
	if colour {
		steps = slices.Concat(steps, tellSteps(1, t.Steps[1]))
		specs = slices.Concat(specs, tellSpec(0x01, t.DC[1]), tellSpec(0x11, t.AC[1]))
	}
	return stream(seg(0xdb, steps...), seg(0xc4, specs...), end)
}

// partsOfFrame and partsOfScan are the components of each kind in c0 and in da.
var (
	partsOfFrame = []string{"01 011100", "03 011100 021101 031101", "03 012100 021101 031101", "03 012200 021101 031101"}
	partsOfScan  = []string{"01 0100", "03 0100 0211 0311", "03 0100 0211 0311", "03 0100 0211 0311"}
)

// tellFrame is c0, by the document.
func tellFrame(s api.Scan) []byte {
	return seg(0xc0, raw(fmt.Sprintf("08 %04x %04x", s.H, s.W), partsOfFrame[s.Kind])...)
}

// tellRestart is dd, by the document.
func tellRestart(n int) []byte { return seg(0xdd, raw(fmt.Sprintf("%04x", n))...) }

// tellScan is da of a kind, by the document.
func tellScan(kind int) []byte { return seg(0xda, raw(partsOfScan[kind], "003f00")...) }

// tellHead is a header, by the document.
func tellHead(s api.Scan) []byte {
	if s.Restart == 0 {
		return stream(tellFrame(s), tellScan(s.Kind))
	}
	return stream(tellFrame(s), tellRestart(s.Restart), tellScan(s.Kind))
}

// rightSpec tells whether a Huffman table is valid, by the share of all bits that
// its codes take: set bits alone must be left.
func rightSpec(s api.Spec) bool {
	share, count := 0, 0
	for i, n := range s.Bits {
		share += n << (15 - i)
		count += n
	}
	values := slices.Compact(slices.Sorted(slices.Values(s.Vals)))
	return share < 1<<16 && count > 0 && count == len(s.Vals) && count == len(values)
}

// takeSteps is what is known with the body of a db, if it is one.
func takeSteps(k *api.Known, body []byte) bool {
	for ; len(body) > 0; body = body[65:] {
		if len(body) < 65 || body[0] > 1 || bytes.Contains(body[1:65], []byte{0}) {
			return false
		}
		for i, place := range zigzag() {
			k.Tables.Steps[body[0]][place] = int(body[1+i])
		}
		k.HasSteps[body[0]] = true
	}
	return true
}

// takeSpecs is what is known with the body of a c4, if it is one.
func takeSpecs(k *api.Known, body []byte) bool {
	for len(body) > 0 {
		if len(body) < 17 {
			return false
		}
		var s api.Spec
		count := 0
		for i, n := range body[1:17] {
			s.Bits[i] = int(n)
			count += int(n)
		}
		if len(body) < 17+count {
			return false
		}
		for _, n := range body[17 : 17+count] {
			s.Vals = append(s.Vals, int(n))
		}
		name := fmt.Sprintf("%02x", body[0])
		body = body[17+count:]
		if !rightSpec(s) {
			return false
		}
		switch name {
		case "00":
			k.Tables.DC[0], k.HasDC[0] = s, true
		case "01":
			k.Tables.DC[1], k.HasDC[1] = s, true
		case "10":
			k.Tables.AC[0], k.HasAC[0] = s, true
		case "11":
			k.Tables.AC[1], k.HasAC[1] = s, true
		default:
			return false
		}
	}
	return true
}

// frames is what the body of c0 is in hexadecimal digits.
var frames = regexp.MustCompile("^08(....)(....)(01011100|03(01(11|21|22)00)021101031101)$")

// takeFrame is what is known with the body of a c0, if it is one.
func takeFrame(k *api.Known, body []byte) bool {
	parts := frames.FindStringSubmatch(hex.EncodeToString(body))
	if parts == nil || k.Frame {
		return false
	}
	h, w := raw(parts[1]), raw(parts[2])
	k.Scan.H, k.Scan.W = int(h[0])<<8+int(h[1]), int(w[0])<<8+int(w[1])
	k.Scan.Kind = slices.Index([]string{"", "11", "21", "22"}, parts[5])
	k.Frame = true
	return k.Scan.H >= 1 && k.Scan.H <= 128 && k.Scan.W >= 1 && k.Scan.W <= 128
}

// take is what is known with the body of a segment, if it is one.
func take(k *api.Known, code byte, body []byte) bool {
	switch code {
	case 0xdb:
		return takeSteps(k, body)
	case 0xc4:
		return takeSpecs(k, body)
	case 0xc0:
		return takeFrame(k, body)
	case 0xdd:
		if len(body) == 2 {
			k.Scan.Restart = int(body[0])<<8 + int(body[1])
		}
		return len(body) == 2
	case 0xda:
		return k.Frame && bytes.Equal(body, tellScan(k.Scan.Kind)[4:])
	}
	return true
}

// codes is the codes of all segments.
var codes = raw("db c4 c0 dd da e0 e1 e2 e3 e4 e5 e6 e7 e8 e9 ea eb ec ed ee ef fe")

// wanted is what Read returns, by the document.
func wanted(b []byte, k api.Known) (api.Known, api.Errno) {
	k = copiedKnown(k)
	k.Frame, k.Started, k.Over, k.Scan, k.At = false, false, false, api.Scan{}, 0
	if len(b) < 2 {
		return api.Known{}, api.ErrShort
	}
	if b[0] != 0xff || b[1] != 0xd8 {
		return api.Known{}, api.ErrForm
	}
	for at := 2; ; {
		left := b[at:]
		switch {
		case len(left) == 0:
			return api.Known{}, api.ErrShort
		case left[0] != 0xff:
			return api.Known{}, api.ErrMark
		case len(left) == 1:
			return api.Known{}, api.ErrShort
		case left[1] == 0xd9 && len(left) > 2:
			return api.Known{}, api.ErrMore
		case left[1] == 0xd9:
			k.Over = true
			return k, api.OK
		case !bytes.Contains(codes, left[1:2]):
			return api.Known{}, api.ErrMark
		case len(left) < 4:
			return api.Known{}, api.ErrShort
		}
		length := int(left[2])<<8 + int(left[3])
		if length < 2 {
			return api.Known{}, api.ErrForm
		}
		if len(left) < 2+length {
			return api.Known{}, api.ErrShort
		}
		if !take(&k, left[1], left[4:2+length]) {
			return api.Known{}, api.ErrForm
		}
		at += 2 + length
		if left[1] == 0xda {
			k.Started, k.At = true, at
			return k, api.OK
		}
	}
}

// short is bytes as hexadecimal digits, if they are few.
func short(b []byte) string {
	if len(b) > 80 {
		return fmt.Sprintf("%x .. (%d bytes)", b[:80], len(b))
	}
	return fmt.Sprintf("%x", b)
}

// reads tells unless Read returns this, and leaves what it is given.
func reads(t *testing.T, what string, b []byte, k, want api.Known, e api.Errno) {
	t.Helper()
	bytesBefore, before := slices.Clone(b), copiedKnown(k)
	got, f := segment.Read(b, k)
	if f != e || !same(got, want) {
		t.Errorf("%s: Read of %s with %v is %v %d, not %v %d", what, short(b), k, got, f, want, e)
	}
	if !bytes.Equal(b, bytesBefore) || !same(k, before) {
		t.Errorf("%s: Read of %s changes what it is given", what, short(bytesBefore))
	}
}

// refuses tells unless Read returns an error, and nothing else, whatever is known.
func refuses(t *testing.T, what string, b []byte, e api.Errno) {
	t.Helper()
	reads(t, what, b, api.Known{}, api.Known{}, e)
	reads(t, what, b, known, api.Known{}, e)
}

// reading tells unless Read returns what the document says.
func reading(t *testing.T, what string, b []byte, k api.Known) {
	t.Helper()
	want, e := wanted(b, k)
	reads(t, what, b, k, want, e)
}

// known is what is known where nothing is left to be known.
var known = api.Known{
	Tables: api.Tables{
		Steps: [2]api.Block{counted(101), counted(7)},
		DC:    [2]api.Spec{spec([]int{1, 0, 2}, 7, 5, 9), spec([]int{0, 3}, 1, 2, 3)},
		AC:    [2]api.Spec{spec([]int{0, 0, 0, 1}, 200), spec([]int{1, 1}, 17, 0)},
	},
	HasSteps: [2]bool{true, true},
	HasDC:    [2]bool{true, true},
	HasAC:    [2]bool{true, true},
	Frame:    true,
	Started:  true,
	Over:     true,
	Scan:     api.Scan{W: 77, H: 66, Kind: api.Wide, Restart: 55},
	At:       44,
}

// ahead is what of the argument k Read keeps.
func ahead(k api.Known) api.Known {
	return api.Known{Tables: copiedTables(k.Tables), HasSteps: k.HasSteps, HasDC: k.HasDC, HasAC: k.HasAC}
}

// TestExample1: a header without restarts.
func TestExample1(t *testing.T) {
	want := raw("ff d8 ff c0 00 0b 08 00 08 00 10 01 01 11 00 ff da 00 08 01 01 00 00 3f 00")
	got, e := segment.Head(api.Scan{W: 16, H: 8, Kind: api.Grey})
	if !bytes.Equal(got, want) || len(got) != 25 || e != api.OK {
		t.Errorf("%x %d", got, e)
	}
}

// sides is numbers of columns or rows that a header may have, and beyond is some
// that it may not.
var (
	sides  = []int{1, 2, 3, 7, 8, 9, 15, 16, 17, 31, 64, 100, 126, 127, 128}
	beyond = []int{
		0, -1, -2, -8, -127, -128, -129, 129, 130, 255, 256, 257, 384, 1 << 15, 1 << 16, 1<<16 + 1, 1<<16 + 128, -1 << 16, -1<<16 + 1,
		1 << 31, 1<<31 - 1, -1 << 31, 1 << 32, 1<<32 + 1, 1<<32 + 128, -1 << 32, -1<<32 + 1, 1 << 62, -1 << 62, math.MaxInt, math.MinInt, math.MinInt + 1, math.MinInt + 128,
	}
)

// notKinds and notRestarts are what no header has.
var (
	notKinds    = []int{-1, 4, -2, 5, 8, -4, 17, 256, 257, 1 << 16, 1 << 32, 1<<32 + 1, -1 << 32, math.MaxInt, math.MinInt, math.MinInt + 1}
	notRestarts = []int{-1, 65536, -2, -65535, -65536, 65537, 1 << 17, 1 << 31, 1 << 32, 1<<32 + 1, -1 << 32, 1 << 62, math.MaxInt, math.MinInt, math.MinInt + 1}
)

// broken is headers that are not valid.
func broken() (l []api.Scan) {
	for kind := range 4 {
		for _, n := range beyond {
			for _, other := range []int{1, 8, 128, n, 0, 129, -n} {
				l = append(l, api.Scan{W: n, H: other, Kind: kind}, api.Scan{W: other, H: n, Kind: kind, Restart: 3})
			}
		}
		for _, n := range notRestarts {
			l = append(l, api.Scan{W: 16, H: 16, Kind: kind, Restart: n}, api.Scan{W: 1, H: 128, Kind: kind, Restart: n})
		}
	}
	for _, n := range notKinds {
		l = append(l, api.Scan{W: 16, H: 16, Kind: n}, api.Scan{W: 1, H: 128, Kind: n, Restart: 65535}, api.Scan{W: 0, H: 1, Kind: n, Restart: -1})
	}
	return append(l, api.Scan{})
}

// TestP13_1Right: headers at the bounds, and beyond.
func TestP13_1Right(t *testing.T) {
	for _, w := range sides {
		for _, h := range sides {
			for kind := range 4 {
				for _, restart := range []int{0, 1, 2, 255, 256, 65534, 65535} {
					if s := (api.Scan{W: w, H: h, Kind: kind, Restart: restart}); !segment.Right(s) {
						t.Error("Right:", s)
					}
				}
			}
		}
	}
	for _, s := range broken() {
		if segment.Right(s) {
			t.Error("Right:", s)
		}
	}
}

// TestP13_1HeadByHand: each kind, with restarts and without.
func TestP13_1HeadByHand(t *testing.T) {
	for _, c := range []struct {
		s    api.Scan
		want string
	}{
		{api.Scan{W: 1, H: 128, Kind: api.Grey}, "ffd8 ffc0 000b 08 0080 0001 01 011100 ffda 0008 01 0100 003f00"},
		{api.Scan{W: 128, H: 1, Kind: api.Grey, Restart: 1}, "ffd8 ffc0 000b 08 0001 0080 01 011100 ffdd 0004 0001 ffda 0008 01 0100 003f00"},
		{api.Scan{W: 32, H: 16, Kind: api.Full}, "ffd8 ffc0 0011 08 0010 0020 03 011100 021101 031101 ffda 000c 03 0100 0211 0311 003f00"},
		{api.Scan{W: 31, H: 127, Kind: api.Full, Restart: 65535}, "ffd8 ffc0 0011 08 007f 001f 03 011100 021101 031101 ffdd 0004 ffff ffda 000c 03 0100 0211 0311 003f00"},
		{api.Scan{W: 9, H: 10, Kind: api.Wide}, "ffd8 ffc0 0011 08 000a 0009 03 012100 021101 031101 ffda 000c 03 0100 0211 0311 003f00"},
		{api.Scan{W: 10, H: 9, Kind: api.Wide, Restart: 258}, "ffd8 ffc0 0011 08 0009 000a 03 012100 021101 031101 ffdd 0004 0102 ffda 000c 03 0100 0211 0311 003f00"},
		{api.Scan{W: 128, H: 127, Kind: api.Small}, "ffd8 ffc0 0011 08 007f 0080 03 012200 021101 031101 ffda 000c 03 0100 0211 0311 003f00"},
		{api.Scan{W: 2, H: 3, Kind: api.Small, Restart: 256}, "ffd8 ffc0 0011 08 0003 0002 03 012200 021101 031101 ffdd 0004 0100 ffda 000c 03 0100 0211 0311 003f00"},
	} {
		if got, e := segment.Head(c.s); !bytes.Equal(got, raw(c.want)) || e != api.OK {
			t.Errorf("Head: %v is %x %d, not %s", c.s, got, e, c.want)
		}
	}
}

// TestP13_1Head: all sizes, each kind, and many restarts.
func TestP13_1Head(t *testing.T) {
	roll := dice(3)
	for w := 1; w <= 128; w++ {
		for h := 1; h <= 128; h++ {
			s := api.Scan{W: w, H: h, Kind: roll.below(4), Restart: roll.below(2) * roll.below(1<<16)}
			if got, e := segment.Head(s); !bytes.Equal(got, tellHead(s)) || e != api.OK {
				t.Fatalf("Head: %v is %x %d", s, got, e)
			}
		}
	}
}

// TestP13_1HeadRefused: headers that are not valid.
func TestP13_1HeadRefused(t *testing.T) {
	for _, s := range broken() {
		if got, e := segment.Head(s); len(got) != 0 || e != api.ErrArg {
			t.Errorf("Head: %v is %x %d", s, got, e)
		}
	}
}

// tells tells unless Tables returns these bytes.
func tells(t *testing.T, what string, tables api.Tables, colour bool, want []byte) {
	t.Helper()
	before := copiedTables(tables)
	if got, e := segment.Tables(tables, colour); !bytes.Equal(got, want) || e != api.OK {
		t.Errorf("%s: Tables of %v %v is %x %d, not %x", what, tables, colour, got, e, want)
	}
	if !sameTables(tables, before) {
		t.Errorf("%s: Tables changes what it is given", what)
	}
}

// tellsNone tells unless Tables returns ErrArg, and nothing else.
func tellsNone(t *testing.T, what string, tables api.Tables, colour bool) {
	t.Helper()
	if got, e := segment.Tables(tables, colour); len(got) != 0 || e != api.ErrArg {
		t.Errorf("%s: Tables of %v %v is %x %d", what, tables, colour, got, e)
	}
}

// TestP13_1TablesByHand: without colour and with it.
func TestP13_1TablesByHand(t *testing.T) {
	tables := api.Tables{
		Steps: [2]api.Block{counted(1), counted(192)},
		DC:    [2]api.Spec{spec([]int{1, 0, 2}, 7, 5, 9), spec([]int{0, 3}, 0, 255, 128)},
		AC:    [2]api.Spec{spec([]int{0, 1}, 240), spec([]int{0, 0, 0, 0, 0, 0, 0, 0, 0, 0, 0, 0, 0, 0, 0, 2}, 1, 0)},
	}
	bright := "00 0102091 10a03040b 121921 1a130c05 060d141b22 2931 2a231c150e07 080f161d242b3239 3a332c251e1710 181f262d343b 3c352e2720 282f363d 3e3730 383f 40"
	colour := "01 c0c1c8 d0c9c2c3ca d1d8e0 d9d2cbc4 c5ccd3dae1 e8f0 e9e2dbd4cdc6 c7ced5dce3eaf1f8 f9f2ebe4ddd6cf d7dee5ecf3fa fbf4ede6df e7eef5fc fdf6ef f7fe ff"
	codes := "00 01000200000000000000000000000000 070509 10 00010000000000000000000000000000 f0"
	more := "01 00030000000000000000000000000000 00ff80 11 00000000000000000000000000000002 0100"
	tells(t, "grey", tables, false, raw("ffd8 ffdb 0043", bright, "ffc4 0028", codes, "ffd9"))
	tells(t, "colour", tables, true, raw("ffd8 ffdb 0084", bright, colour, "ffc4 004f", codes, more, "ffd9"))
}

// TestP13_1Tables: tables at random.
func TestP13_1Tables(t *testing.T) {
	roll := dice(5)
	for range 300 {
		tables := drawTables(&roll)
		tells(t, "random", tables, false, tellTables(tables, false))
		tells(t, "random", tables, true, tellTables(tables, true))
	}
}

// TestP13_1TablesAtTheBounds: the least steps and the greatest, and as many
// values as there can be, of lengths of which none has them all.
func TestP13_1TablesAtTheBounds(t *testing.T) {
	l := []api.Spec{
		spec([]int{1}, 255),
		spec([]int{0, 0, 0, 0, 0, 0, 0, 255, 1}, upward(0, 256)...),
		spec([]int{0, 0, 0, 0, 0, 0, 0, 0, 0, 0, 0, 0, 0, 0, 1, 255}, upward(0, 256)...),
		spec([]int{1, 1, 1, 1, 1, 1, 1, 1, 1, 1, 1, 1, 1, 1, 1, 1}, upward(240, 16)...),
		spec(nil, 3),
	}
	l[4].Bits[15] = 1
	for i, s := range l {
		for _, steps := range []api.Block{filled(1), filled(255)} {
			other := l[(i+1)%len(l)]
			tables := api.Tables{Steps: [2]api.Block{steps, filled(256 - steps[0])}, DC: [2]api.Spec{s, other}, AC: [2]api.Spec{other, s}}
			tells(t, "bounds", tables, false, tellTables(tables, false))
			tells(t, "bounds", tables, true, tellTables(tables, true))
		}
	}
}

// TestP13_1TablesOfOneLength: 256 codes of one length are valid; their count has
// no place in its byte, so what is told is no table that could be read.
func TestP13_1TablesOfOneLength(t *testing.T) {
	tables := copiedTables(known.Tables)
	tables.AC[0] = spec([]int{0, 0, 0, 0, 0, 0, 0, 0, 256}, upward(0, 256)...)
	want := tellTables(tables, false)
	tells(t, "256 codes", tables, false, want)
	refuses(t, "256 codes", want, api.ErrForm)
}

// notSteps is numbers that no step is.
var notSteps = []int{0, 256, -1, -255, -256, 257, 511, 512, 1 << 16, 1<<16 + 1, 1 << 32, 1<<32 + 1, 1<<32 + 255, -1 << 32, -1<<32 + 7, math.MaxInt, math.MinInt, math.MinInt + 1}

// TestP13_1TablesSteps: steps that are not right, at each place.
func TestP13_1TablesSteps(t *testing.T) {
	for _, n := range notSteps {
		for place := range 64 {
			bright, colour := copiedTables(known.Tables), copiedTables(known.Tables)
			bright.Steps[0][place] = n
			colour.Steps[1][place] = n
			tellsNone(t, "brightness", bright, false)
			tellsNone(t, "brightness", bright, true)
			tells(t, "colour that is not told", colour, false, tellTables(known.Tables, false))
			tellsNone(t, "colour", colour, true)
		}
	}
}

// notSpecs is Huffman tables that are not valid.
func notSpecs() []api.Spec {
	l := []api.Spec{
		{}, spec(nil, 1), spec([]int{1}), spec([]int{2}, 1, 2), spec([]int{1}, 1, 2), spec([]int{1, 1}, 1), spec([]int{0, 4}, 1, 2, 3, 4), spec([]int{1, 2}, 1, 2, 3),
		spec([]int{1, 1, 2}, 1, 2, 3, 4), spec([]int{0, 2}, 7, 7), spec([]int{1, 1, 1}, 5, 6, 5), spec([]int{1}, -1), spec([]int{1}, 256), spec([]int{0, 2}, 1, 257),
		spec([]int{-1}), spec([]int{-1, 2}, 1), spec([]int{0, -1, 2}, 1), spec([]int{1, -1}), spec([]int{1}, 1<<32), spec([]int{1}, math.MinInt), spec([]int{1 << 32}, 1), spec([]int{math.MaxInt}, 1),
		spec([]int{0, 0, 0, 0, 0, 0, 0, 256}, upward(0, 256)...), spec([]int{0, 0, 0, 0, 0, 0, 0, 0, 257}, upward(0, 257)...), spec([]int{0, 0, 0, 0, 0, 0, 0, 0, 256, 1}, append(upward(0, 256), 0)...),
	}
	all := spec([]int{1, 1, 1, 1, 1, 1, 1, 1, 1, 1, 1, 1, 1, 1, 1, 2}, upward(0, 17)...)
	return append(l, all)
}

// TestP13_1TablesCodes: Huffman tables that are not valid, in each place.
func TestP13_1TablesCodes(t *testing.T) {
	for _, s := range notSpecs() {
		for which := range 2 {
			dc, ac := copiedTables(known.Tables), copiedTables(known.Tables)
			dc.DC[which], ac.AC[which] = s, s
			tellsNone(t, "DC", dc, true)
			tellsNone(t, "AC", ac, true)
			if which == 0 {
				tellsNone(t, "DC", dc, false)
				tellsNone(t, "AC", ac, false)
			} else {
				tells(t, "DC of colour", dc, false, tellTables(known.Tables, false))
				tells(t, "AC of colour", ac, false, tellTables(known.Tables, false))
			}
		}
	}
	tellsNone(t, "nothing", api.Tables{}, false)
	tellsNone(t, "nothing", api.Tables{}, true)
	bright := known.Tables
	bright.Steps[1], bright.DC[1], bright.AC[1] = api.Block{}, api.Spec{}, api.Spec{}
	tells(t, "no colour", bright, false, tellTables(known.Tables, false))
	tellsNone(t, "no colour", bright, true)
}

// TestP13_2Starts: the first two bytes.
func TestP13_2Starts(t *testing.T) {
	refuses(t, "nothing", nil, api.ErrShort)
	refuses(t, "nothing", []byte{}, api.ErrShort)
	for first := range 256 {
		refuses(t, "one byte", []byte{byte(first)}, api.ErrShort)
		for second := range 256 {
			b := []byte{byte(first), byte(second)}
			if first == 0xff && second == 0xd8 {
				refuses(t, "nothing behind", b, api.ErrShort)
				continue
			}
			if _, e := segment.Read(b, known); e != api.ErrForm {
				t.Errorf("Read: %x is %d", b, e)
			}
		}
	}
	for _, start := range []string{"ffd9", "d8ff", "0000", "ffff", "ffdb", "fed8", "00d8", "ff58", "fff8", "7fd8"} {
		refuses(t, "no start", raw(start, "ffd9"), api.ErrForm)
		refuses(t, "no start", slices.Concat(raw(start), tellHead(api.Scan{W: 8, H: 8})[2:]), api.ErrForm)
		refuses(t, "no start and too short", raw(start, "ff"), api.ErrForm)
		refuses(t, "no start and no mark", raw(start, "00"), api.ErrForm)
	}
}

// streams is streams that can be read, up to their last byte.
func streams() (l [][]byte) {
	roll := dice(7)
	for kind := range 4 {
		s := api.Scan{W: 1 + roll.below(128), H: 1 + roll.below(128), Kind: kind, Restart: 300 * (kind % 2)}
		tables := tellTables(drawTables(&roll), kind != api.Grey)
		l = append(l, tellHead(s), tables, slices.Concat(tables[:len(tables)-2], seg(0xe0, 1, 2), tellHead(s)[2:]), stream(tellRestart(9), tellFrame(s), seg(0xfe), tables[2:]))
	}
	return l
}

// TestP13_2CutShort: streams that end too early, at every byte.
func TestP13_2CutShort(t *testing.T) {
	for _, b := range streams() {
		if _, e := segment.Read(b, api.Known{}); e != api.OK {
			t.Errorf("Read: %s is %d", short(b), e)
		}
		for n := range b {
			refuses(t, "cut short", b[:n:n], api.ErrShort)
		}
	}
}

// TestP13_2BytesBehindTheEndOfASlice: what lies in the spare capacity is not read.
func TestP13_2BytesBehindTheEndOfASlice(t *testing.T) {
	b := tellHead(api.Scan{W: 8, H: 8, Kind: api.Full})
	for n := range b {
		refuses(t, "cut short", b[:n], api.ErrShort)
	}
	whole := stream(end, end)
	reads(t, "over", whole[:4], api.Known{}, api.Known{Over: true}, api.OK)
}

// TestP13_2NoMark: a byte other than ff where a segment begins.
func TestP13_2NoMark(t *testing.T) {
	for n := range 255 {
		for _, ahead := range [][]byte{nil, seg(0xe0), seg(0xfe, 0xff), tellRestart(7), tellFrame(api.Scan{W: 3, H: 3}), seg(0xdb), seg(0xc4)} {
			refuses(t, "no mark at the end", slices.Concat(stream(ahead), []byte{byte(n)}), api.ErrMark)
			refuses(t, "no mark", slices.Concat(stream(ahead), []byte{byte(n)}, raw("d9")), api.ErrMark)
			refuses(t, "no mark", slices.Concat(stream(ahead), []byte{byte(n)}, end), api.ErrMark)
		}
	}
}

// TestP13_2Codes: each marker code, with nothing behind it and with a segment's
// rest.
func TestP13_2Codes(t *testing.T) {
	for n := range 256 {
		code := byte(n)
		switch {
		case code == 0xd9:
			continue
		case !bytes.Contains(codes, []byte{code}):
			refuses(t, "no code at the end", stream([]byte{0xff, code}), api.ErrMark)
			refuses(t, "no code and a length that is none", stream([]byte{0xff, code, 0, 1}), api.ErrMark)
			refuses(t, "no code", stream(seg(code), end), api.ErrMark)
			refuses(t, "no code", stream(seg(code, 0, 5), end), api.ErrMark)
			refuses(t, "no code later on", stream(seg(0xe0, 3), []byte{0xff, code}), api.ErrMark)
		default:
			refuses(t, "no length", stream([]byte{0xff, code}), api.ErrShort)
			refuses(t, "half a length", stream([]byte{0xff, code, 0}), api.ErrShort)
			refuses(t, "no body", stream([]byte{0xff, code, 0, 3}), api.ErrShort)
		}
	}
	refuses(t, "ff ahead of a mark", stream([]byte{0xff}, end), api.ErrMark)
	refuses(t, "a start", stream(raw("ffd8"), end), api.ErrMark)
}

// TestP13_2Lengths: lengths that are less than their own, their own, and beyond
// the end.
func TestP13_2Lengths(t *testing.T) {
	for _, code := range codes {
		for _, n := range []byte{0, 1} {
			refuses(t, "no length at the end", stream([]byte{0xff, code, 0, n}), api.ErrForm)
			refuses(t, "no length", stream([]byte{0xff, code, 0, n}, end), api.ErrForm)
		}
		empty := stream(seg(code), end)
		if code == 0xc0 || code == 0xdd || code == 0xda {
			refuses(t, "no body", empty, api.ErrForm)
			refuses(t, "no body at the end", stream(seg(code)), api.ErrForm)
		} else {
			reads(t, "no body", empty, api.Known{}, api.Known{Over: true}, api.OK)
			refuses(t, "no body at the end", stream(seg(code)), api.ErrShort)
		}
		for _, length := range []int{3, 4, 255, 256, 257, 1000, 65535} {
			b := stream([]byte{0xff, code, byte(length / 256), byte(length % 256)}, make([]byte, length-3))
			refuses(t, "beyond the end", b, api.ErrShort)
			refuses(t, "far beyond the end", b[:6], api.ErrShort)
			if code >= 0xe0 {
				refuses(t, "up to the end", append(b, 0), api.ErrShort)
				reads(t, "behind it", append(b, 0, 0xff, 0xd9), known, over(known), api.OK)
			}
		}
	}
}

// over is what is known after a stream in which nothing is told.
func over(k api.Known) api.Known {
	k = ahead(k)
	k.Over = true
	return k
}

// TestP13_2Steps: bodies of db.
func TestP13_2Steps(t *testing.T) {
	a, b := tellSteps(0, counted(3)), tellSteps(1, counted(192))
	again := tellSteps(0, counted(50))
	with := func(bright, colour int) api.Known {
		k := over(api.Known{})
		if bright > 0 {
			k.Tables.Steps[0], k.HasSteps[0] = counted(bright), true
		}
		if colour > 0 {
			k.Tables.Steps[1], k.HasSteps[1] = counted(colour), true
		}
		return k
	}
	for _, c := range []struct {
		what string
		b    []byte
		want api.Known
	}{
		{"none", stream(seg(0xdb), end), with(0, 0)},
		{"of brightness", stream(seg(0xdb, a...), end), with(3, 0)},
		{"of colour", stream(seg(0xdb, b...), end), with(0, 192)},
		{"both", stream(seg(0xdb, slices.Concat(a, b)...), end), with(3, 192)},
		{"both the other way", stream(seg(0xdb, slices.Concat(b, a)...), end), with(3, 192)},
		{"one segment each", stream(seg(0xdb, b...), seg(0xdb), seg(0xdb, a...), end), with(3, 192)},
		{"twice", stream(seg(0xdb, slices.Concat(a, again)...), end), with(50, 0)},
		{"twice the other way", stream(seg(0xdb, slices.Concat(again, b, a)...), end), with(3, 192)},
		{"in two segments", stream(seg(0xdb, again...), seg(0xdb, a...), end), with(3, 0)},
		{"many", stream(seg(0xdb, slices.Concat(bytes.Repeat(again, 900), b)...), end), with(50, 192)},
	} {
		reads(t, c.what, c.b, api.Known{}, c.want, api.OK)
		reading(t, c.what, c.b, known)
	}
	for n := 2; n < 256; n++ {
		refuses(t, "which steps", stream(seg(0xdb, tellSteps(byte(n), counted(3))...), end), api.ErrForm)
		refuses(t, "which steps behind others", stream(seg(0xdb, slices.Concat(a, tellSteps(byte(n), counted(3)))...), end), api.ErrForm)
	}
}

// TestP13_2StepsBroken: bodies of db of any length, and with steps of 0.
func TestP13_2StepsBroken(t *testing.T) {
	both := slices.Concat(tellSteps(0, counted(3)), tellSteps(1, counted(192)))
	for n := 1; n < len(both); n++ {
		if n != 65 {
			refuses(t, "a table cut short", stream(seg(0xdb, both[:n]...), end), api.ErrForm)
			refuses(t, "a table cut short at the end", stream(seg(0xdb, both[:n]...)), api.ErrForm)
		}
		refuses(t, "a byte too many", stream(seg(0xdb, slices.Concat(both, both[:1])...), end), api.ErrForm)
	}
	for at := range both {
		b := slices.Clone(both)
		b[at] = 0
		if at == 0 || at == 65 {
			reading(t, "another one's steps", stream(seg(0xdb, b...), end), known)
			continue
		}
		refuses(t, "a step of 0", stream(seg(0xdb, b...), end), api.ErrForm)
	}
}

// withSpecs is what is known after a stream of some Huffman tables, by the first
// bytes that tell which they are.
func withSpecs(l map[byte]api.Spec) api.Known {
	k := over(api.Known{})
	for name, s := range l {
		if name < 2 {
			k.Tables.DC[name], k.HasDC[name] = copiedSpec(s), true
		} else {
			k.Tables.AC[name-16], k.HasAC[name-16] = copiedSpec(s), true
		}
	}
	return k
}

// TestP13_2Specs: bodies of c4.
func TestP13_2Specs(t *testing.T) {
	roll := dice(11)
	for _, name := range []byte{0x00, 0x01, 0x10, 0x11} {
		for range 50 {
			s, other := draw(&roll), draw(&roll)
			b := tellSpec(name, s)
			only := withSpecs(map[byte]api.Spec{name: s})
			reads(t, "one", stream(seg(0xc4, b...), end), api.Known{}, only, api.OK)
			reads(t, "twice", stream(seg(0xc4, slices.Concat(tellSpec(name, other), b)...), end), api.Known{}, only, api.OK)
			reads(t, "in two segments", stream(seg(0xc4, tellSpec(name, other)...), seg(0xc4), seg(0xc4, b...), end), api.Known{}, only, api.OK)
			second := []byte{0x00, 0x01, 0x10, 0x11}[roll.below(4)]
			if second != name {
				both := withSpecs(map[byte]api.Spec{name: s, second: other})
				reads(t, "two", stream(seg(0xc4, slices.Concat(b, tellSpec(second, other))...), end), api.Known{}, both, api.OK)
			}
			reading(t, "one", stream(seg(0xc4, b...), end), known)
		}
	}
	a, b, c, d := draw(&roll), draw(&roll), draw(&roll), draw(&roll)
	body := slices.Concat(tellSpec(0x11, d), tellSpec(0x00, a), tellSpec(0x10, c), tellSpec(0x01, b))
	reads(t, "all", stream(seg(0xc4, body...), end), known, api.Known{
		Tables: api.Tables{Steps: known.Tables.Steps, DC: [2]api.Spec{a, b}, AC: [2]api.Spec{c, d}}, HasSteps: known.HasSteps, HasDC: known.HasDC, HasAC: known.HasAC, Over: true,
	}, api.OK)
	reads(t, "none", stream(seg(0xc4), end), api.Known{}, over(api.Known{}), api.OK)
}

// TestP13_2SpecsBroken: bodies of c4 of any length, with first bytes that are
// none, and with tables that are not valid.
func TestP13_2SpecsBroken(t *testing.T) {
	roll := dice(13)
	a, b := spec([]int{1, 0, 2}, 7, 5, 9), draw(&roll)
	both := slices.Concat(tellSpec(0x00, a), tellSpec(0x11, b))
	for n := 1; n < len(both); n++ {
		if n != 20 {
			refuses(t, "a table cut short", stream(seg(0xc4, both[:n]...), end), api.ErrForm)
			refuses(t, "a table cut short at the end", stream(seg(0xc4, both[:n]...)), api.ErrForm)
		}
	}
	refuses(t, "a byte too many", stream(seg(0xc4, slices.Concat(both, []byte{0})...), end), api.ErrForm)
	for n := range 256 {
		name := byte(n)
		if bytes.Contains(raw("00011011"), []byte{name}) {
			continue
		}
		refuses(t, "which table", stream(seg(0xc4, tellSpec(name, a)...), end), api.ErrForm)
		refuses(t, "which table behind others", stream(seg(0xc4, slices.Concat(both, tellSpec(name, a))...), end), api.ErrForm)
	}
	for _, name := range []byte{0x00, 0x01, 0x10, 0x11} {
		for _, body := range []string{
			"00000000000000000000000000000000",                  // no codes
			"02000000000000000000000000000000 0102",             // set bits alone
			"00040000000000000000000000000000 01020304",         // set bits alone
			"00000000000000000000000000000000 01",               // a byte of no table
			"00020000000000000000000000000000 0505",             // a value twice
			"01010100000000000000000000000000 050605",           // a value twice, of two lengths
			"03000000000000000000000000000000 010203",           // more codes than there are
			"01020000000000000000000000000000 010203",           // set bits alone behind others
			"ff000000000000000000000000000000" + many(255),      // far more codes than there are
			"0000000000000000ff02000000000000" + many(257),      // more values than there are
			"00000000000000ff0000000000000000" + many(254),      // a value is missing
			"00000000000000000000000000000100" + many(2) + "00", // a value too many
		} {
			refuses(t, "a table that is not valid", stream(seg(0xc4, raw(fmt.Sprintf("%02x", name), body)...), end), api.ErrForm)
			refuses(t, "a table that is not valid behind others", stream(seg(0xc4, slices.Concat(both, []byte{name}, raw(body))...), end), api.ErrForm)
		}
	}
	refuses(t, "all counts", stream(seg(0xc4, bytes.Repeat([]byte{0xff}, 17+4080)...), end), api.ErrForm)
	refuses(t, "all counts", stream(seg(0xc4, slices.Concat([]byte{0}, bytes.Repeat([]byte{0xff}, 16+4080))...), end), api.ErrForm)
}

// many is n different values as hexadecimal digits, as long as there are any.
func many(n int) (s string) {
	for i := range n {
		s += fmt.Sprintf("%02x", i%256)
	}
	return s
}

// framed is what is known after a stream with c0 alone.
func framed(s api.Scan) api.Known { return api.Known{Frame: true, Over: true, Scan: s} }

// TestP13_2Frames: c0 of each kind and of many sizes.
func TestP13_2Frames(t *testing.T) {
	for kind := range 4 {
		for _, w := range sides {
			for _, h := range sides {
				s := api.Scan{W: w, H: h, Kind: kind}
				reads(t, "c0", stream(tellFrame(s), end), api.Known{}, framed(s), api.OK)
			}
		}
		for _, n := range []int{0, 129, 130, 255, 256, 257, 256 + 128, 0x1010, 32768, 65535} {
			for _, other := range []int{1, 16, 128, 0, 129, n} {
				refuses(t, "W", stream(tellFrame(api.Scan{W: n, H: other, Kind: kind}), end), api.ErrForm)
				refuses(t, "H", stream(tellFrame(api.Scan{W: other, H: n, Kind: kind}), end), api.ErrForm)
				refuses(t, "H at the end", stream(tellFrame(api.Scan{W: other, H: n, Kind: kind})), api.ErrForm)
			}
		}
	}
}

// TestP13_2FramesBroken: c0 with another byte in each place, and of any length.
func TestP13_2FramesBroken(t *testing.T) {
	for kind := range 4 {
		body := tellFrame(api.Scan{W: 5, H: 6, Kind: kind})[4:]
		for at := range body {
			for n := range 256 {
				b := slices.Clone(body)
				b[at] = byte(n)
				switch right := n >= 1 && n <= 128; {
				case b[at] == body[at]:
					reads(t, "the same", stream(seg(0xc0, b...), end), api.Known{}, framed(api.Scan{W: 5, H: 6, Kind: kind}), api.OK)
				case at == 2 && right:
					reads(t, "H", stream(seg(0xc0, b...), end), api.Known{}, framed(api.Scan{W: 5, H: n, Kind: kind}), api.OK)
				case at == 4 && right:
					reads(t, "W", stream(seg(0xc0, b...), end), api.Known{}, framed(api.Scan{W: n, H: 6, Kind: kind}), api.OK)
				case at == 7 && kind != api.Grey && (n == 0x11 || n == 0x21 || n == 0x22):
					reading(t, "another kind", stream(seg(0xc0, b...), end), api.Known{})
				default:
					refuses(t, "another byte", stream(seg(0xc0, b...), end), api.ErrForm)
				}
			}
		}
		for n := range body {
			refuses(t, "too few", stream(seg(0xc0, body[:n]...), end), api.ErrForm)
		}
		for n := range 20 {
			refuses(t, "too many", stream(seg(0xc0, slices.Concat(body, make([]byte, n+1))...), end), api.ErrForm)
		}
		refuses(t, "twice in one", stream(seg(0xc0, slices.Concat(body, body)...), end), api.ErrForm)
	}
	for _, parts := range []string{
		"00", "02 011100 021101", "04 011100 021101 031101 041101", "01 011100 021101 031101", "03 011100", "03 011100 021101", "01 012100", "01 012200", "01 011101", "01 021100",
		"03 011200 021101 031101", "03 011100 031101 021101", "03 001100 011101 021101", "03 022100 011101 031101", "03 012100 022101 032101", "03 012200 021101 032201", "03 014100 021101 031101",
	} {
		refuses(t, "components "+parts, stream(seg(0xc0, raw("08 0010 0010", parts)...), end), api.ErrForm)
	}
}

// TestP13_2FrameAfterFrame: only one c0 may be in a stream.
func TestP13_2FrameAfterFrame(t *testing.T) {
	for kind := range 4 {
		for other := range 4 {
			a, b := tellFrame(api.Scan{W: 5, H: 6, Kind: kind}), tellFrame(api.Scan{W: 5, H: 6, Kind: other})
			refuses(t, "two", stream(a, b, end), api.ErrForm)
			refuses(t, "two with others between", stream(a, seg(0xe0), tellRestart(4), seg(0xdb), b, tellScan(other)), api.ErrForm)
			refuses(t, "two at the end", stream(a, b), api.ErrForm)
		}
	}
	refuses(t, "the second one is none", stream(tellFrame(api.Scan{W: 5, H: 6}), tellFrame(api.Scan{W: 0, H: 6}), end), api.ErrForm)
	// What is known of another stream is none of this one's.
	reads(t, "known before", stream(tellFrame(api.Scan{W: 5, H: 6}), end), known, withScan(known, true, api.Scan{W: 5, H: 6}), api.OK)
}

// withScan is what is known after a stream in which only a header is told.
func withScan(k api.Known, frame bool, s api.Scan) api.Known {
	k = over(k)
	k.Frame, k.Scan = frame, s
	return k
}

// TestP13_2Restarts: dd of each length, ahead of c0 and behind it, and more than
// once.
func TestP13_2Restarts(t *testing.T) {
	frame := tellFrame(api.Scan{W: 9, H: 7, Kind: api.Small})
	head := api.Scan{W: 9, H: 7, Kind: api.Small}
	for _, n := range []int{0, 1, 2, 127, 128, 255, 256, 257, 0x1234, 32767, 32768, 65534, 65535} {
		dd := tellRestart(n)
		head.Restart = n
		reads(t, "alone", stream(dd, end), known, withScan(known, false, api.Scan{Restart: n}), api.OK)
		reads(t, "ahead of c0", stream(dd, frame, end), known, withScan(known, true, head), api.OK)
		reads(t, "behind c0", stream(frame, dd, end), known, withScan(known, true, head), api.OK)
		reads(t, "twice", stream(tellRestart(999), dd, frame, end), known, withScan(known, true, head), api.OK)
		reads(t, "twice", stream(tellRestart(999), frame, dd, end), known, withScan(known, true, head), api.OK)
		reads(t, "three times", stream(frame, tellRestart(0), tellRestart(999), dd, end), known, withScan(known, true, head), api.OK)
		started := withScan(known, true, head)
		b := stream(frame, dd, tellScan(api.Small))
		started.Over, started.Started, started.At = false, true, len(b)
		reads(t, "ahead of da", b, known, started, api.OK)
	}
	for _, body := range []string{"", "01", "00", "010203", "000000", "00000000", many(256)} {
		for _, ahead := range [][]byte{nil, frame, tellRestart(3)} {
			refuses(t, "another length", stream(ahead, seg(0xdd, raw(body)...), end), api.ErrForm)
			refuses(t, "another length", stream(ahead, seg(0xdd, raw(body)...), frame, tellScan(api.Small)), api.ErrForm)
		}
	}
}

// TestP13_2Scans: da of each kind, and what lies behind it.
func TestP13_2Scans(t *testing.T) {
	roll := dice(17)
	for kind := range 4 {
		s := api.Scan{W: 33, H: 44, Kind: kind}
		b := stream(seg(0xfe, drawBytes(roll.below(300), &roll)...), tellFrame(s), tellScan(kind))
		want := ahead(known)
		want.Frame, want.Started, want.Scan, want.At = true, true, s, len(b)
		reads(t, "at the end", b, known, want, api.OK)
		for _, behind := range [][]byte{{0}, {0xff}, end, tellFrame(s), tellScan(kind), tellRestart(5), seg(0xdb, 7), stream(end), drawBytes(1000, &roll)} {
			reads(t, "behind it", slices.Concat(b, behind), known, want, api.OK)
		}
	}
}

// TestP13_2ScansBroken: da ahead of c0, with another kind's number of components,
// with another byte in each place, and of any length.
func TestP13_2ScansBroken(t *testing.T) {
	for kind := range 4 {
		frame := tellFrame(api.Scan{W: 33, H: 44, Kind: kind})
		body := tellScan(kind)[4:]
		refuses(t, "ahead of c0", stream(seg(0xda, body...)), api.ErrForm)
		refuses(t, "ahead of c0", stream(tellRestart(3), seg(0xe0), seg(0xda, body...), frame), api.ErrForm)
		for other := range 4 {
			if (other == api.Grey) != (kind == api.Grey) {
				refuses(t, "another number of components", stream(frame, tellScan(other)), api.ErrForm)
			}
		}
		for at := range body {
			for n := range 256 {
				b := slices.Clone(body)
				b[at] = byte(n)
				if b[at] != body[at] {
					refuses(t, "another byte", stream(frame, seg(0xda, b...), end), api.ErrForm)
				}
			}
		}
		for n := range body {
			refuses(t, "too few", stream(frame, seg(0xda, body[:n]...)), api.ErrForm)
			refuses(t, "too many", stream(frame, seg(0xda, slices.Concat(body, body[:n+1])...), end), api.ErrForm)
			refuses(t, "too many", stream(frame, seg(0xda, slices.Concat(body, make([]byte, n+1))...), end), api.ErrForm)
		}
	}
	for _, body := range []string{"00 003f00", "02 0100 0211 003f00", "04 0100 0211 0311 0411 003f00", "01 0111 003f00", "03 0100 0200 0300 003f00", "03 0100 0311 0211 003f00", "01 0100 003f01", "01 0100 013f00", "03 0100 0211 0311 003e00", "03 0100 0211 0311 000000"} {
		for kind := range 4 {
			refuses(t, "a body of "+body, stream(tellFrame(api.Scan{W: 33, H: 44, Kind: kind}), seg(0xda, raw(body)...)), api.ErrForm)
		}
	}
}

// TestP13_2Others: e0 to ef and fe, whatever they have.
func TestP13_2Others(t *testing.T) {
	roll := dice(19)
	for _, code := range codes[5:] {
		for _, n := range []int{0, 1, 2, 3, 100, 253, 254, 255, 256, 65532, 65533} {
			reads(t, "random bytes", stream(seg(code, drawBytes(n, &roll)...), end), known, over(known), api.OK)
		}
		for _, body := range [][]byte{end, raw("ffd8 ffd9"), tellFrame(api.Scan{W: 3, H: 3}), tellScan(api.Grey), seg(0xdb, tellSteps(0, counted(9))...), raw("ff")} {
			reads(t, "what would tell something by itself", stream(seg(code, body...), end), known, over(known), api.OK)
		}
	}
}

// TestP13_2End: d9, and bytes behind it.
func TestP13_2End(t *testing.T) {
	reads(t, "nothing else", stream(end), api.Known{}, api.Known{Over: true}, api.OK)
	reads(t, "nothing else", stream(end), known, over(known), api.OK)
	for n := range 256 {
		refuses(t, "a byte behind", stream(end, []byte{byte(n)}), api.ErrMore)
	}
	for _, behind := range [][]byte{end, stream(end), tellScan(api.Grey), seg(0xe0), raw("0002"), make([]byte, 5000)} {
		refuses(t, "bytes behind", stream(end, behind), api.ErrMore)
		refuses(t, "bytes behind", stream(tellFrame(api.Scan{W: 3, H: 3}), end, behind), api.ErrMore)
	}
	for _, b := range streams() {
		if bytes.HasSuffix(b, end) {
			refuses(t, "bytes behind", slices.Concat(b, raw("00")), api.ErrMore)
		}
	}
}

// TestP13_2FirstError: the error that comes first along the stream is returned.
func TestP13_2FirstError(t *testing.T) {
	frame := tellFrame(api.Scan{W: 33, H: 44})
	wrong := seg(0xdb, make([]byte, 65)...)
	for _, c := range []struct {
		what string
		b    []byte
		want api.Errno
	}{
		{"one byte, which is no start", raw("00"), api.ErrShort},
		{"no start and nothing else", raw("0000"), api.ErrForm},
		{"no mark and a code that is none", stream(raw("0000")), api.ErrMark},
		{"no mark ahead of steps that are none", stream(raw("00"), wrong), api.ErrMark},
		{"steps that are none ahead of no mark", stream(wrong, raw("00")), api.ErrForm},
		{"steps that are none ahead of a code that is none", stream(wrong, raw("ff00")), api.ErrForm},
		{"a code that is none ahead of steps that are none", stream(raw("ff00"), wrong), api.ErrMark},
		{"steps that are none and nothing behind", stream(wrong), api.ErrForm},
		{"steps that are none ahead of bytes behind the end", stream(wrong, end, end), api.ErrForm},
		{"steps that are none, and a byte is missing", stream(wrong[:len(wrong)-1]), api.ErrShort},
		{"which steps, and a byte is missing", stream(raw("ffdb 0043 07")), api.ErrShort},
		{"a body of db that is too short, and a byte of it is missing", stream(raw("ffdb 0004 00")), api.ErrShort},
		{"a table that is none, and a byte is missing", stream(raw("ffc4 0016 00 02")), api.ErrShort},
		{"which table, and a byte is missing", stream(raw("ffc4 0016 55")), api.ErrShort},
		{"half a length that is none", stream(raw("ffe0 00")), api.ErrShort},
		{"a length that is none ahead of a code that is none", stream(raw("ffe0 0001 ff00")), api.ErrForm},
		{"c0 of another length, and a byte is missing", stream(raw("ffc0 0003")), api.ErrShort},
		{"c0 of no size, and a byte is missing", stream(raw("ffc0 000b 08 0000 0000 01 0111")), api.ErrShort},
		{"c0 after c0, and a byte is missing", stream(frame, frame[:len(frame)-1]), api.ErrShort},
		{"c0 after c0, and its length is missing", stream(frame, frame[:2]), api.ErrShort},
		{"c0 after c0 ahead of no mark", stream(frame, frame, raw("00")), api.ErrForm},
		{"dd of another length, and a byte is missing", stream(raw("ffdd 0005 0000")), api.ErrShort},
		{"da ahead of c0, and a byte is missing", stream(raw("ffda 0008 01 0100 003f")), api.ErrShort},
		{"da ahead of c0, and its length is missing", stream(raw("ffda")), api.ErrShort},
		{"da ahead of c0, and its length is none", stream(raw("ffda 0001")), api.ErrForm},
		{"da ahead of c0 that is none", stream(tellScan(api.Grey), wrong, frame), api.ErrForm},
		{"da of another number, and a byte is missing", stream(frame, raw("ffda 000c 03 0100 0211 0311 003f")), api.ErrShort},
		{"bytes behind the end that are no segment", stream(end, raw("00")), api.ErrMore},
		{"bytes behind the end, which would be an error", stream(end, wrong), api.ErrMore},
		{"no mark ahead of the end and of bytes behind it", stream(raw("00"), end, end), api.ErrMark},
	} {
		refuses(t, c.what, c.b, c.want)
	}
}

// TestP13_2Known: what was known ahead is kept where nothing is read, and only
// there.
func TestP13_2Known(t *testing.T) {
	s := spec([]int{0, 2, 1}, 33, 44, 55)
	for which := range 2 {
		name := byte(which)
		for _, c := range []struct {
			segment []byte
			set     func(k *api.Known)
		}{
			{seg(0xdb, tellSteps(name, counted(60))...), func(k *api.Known) { k.Tables.Steps[which], k.HasSteps[which] = counted(60), true }},
			{seg(0xc4, tellSpec(name, s)...), func(k *api.Known) { k.Tables.DC[which], k.HasDC[which] = s, true }},
			{seg(0xc4, tellSpec(0x10+name, s)...), func(k *api.Known) { k.Tables.AC[which], k.HasAC[which] = s, true }},
			{nil, func(k *api.Known) {}},
		} {
			without := copiedKnown(known)
			without.HasSteps, without.HasDC, without.HasAC = [2]bool{}, [2]bool{}, [2]bool{}
			for _, k := range []api.Known{{}, known, without, {HasAC: [2]bool{true, false}, HasSteps: [2]bool{false, true}}} {
				want := over(k)
				c.set(&want)
				reads(t, "one table", stream(c.segment, end), k, want, api.OK)
				head := api.Scan{W: 8, H: 9, Kind: api.Wide, Restart: 3}
				b := stream(tellRestart(3), tellFrame(head), c.segment, tellScan(api.Wide))
				want.Over, want.Frame, want.Started, want.Scan, want.At = false, true, true, head, len(b)
				reads(t, "one table and a header", b, k, want, api.OK)
			}
		}
	}
}

// TestP13_2KnownThatIsIgnored: the fields of what was known that are another
// stream's.
func TestP13_2KnownThatIsIgnored(t *testing.T) {
	for _, k := range []api.Known{
		{Frame: true}, {Started: true}, {Over: true}, {At: 9}, {At: -1}, {At: math.MaxInt}, {Scan: api.Scan{W: 1, H: 1}}, {Scan: api.Scan{Kind: 9, Restart: -1}}, {Scan: api.Scan{W: 3, H: 4, Kind: 2, Restart: 9}, Frame: true},
	} {
		reads(t, "nothing", stream(end), k, api.Known{Over: true}, api.OK)
		reads(t, "dd", stream(tellRestart(4), end), k, api.Known{Over: true, Scan: api.Scan{Restart: 4}}, api.OK)
		reads(t, "c0", stream(tellFrame(api.Scan{W: 8, H: 9, Kind: 1}), end), k, framed(api.Scan{W: 8, H: 9, Kind: 1}), api.OK)
		reads(t, "da without c0", stream(tellScan(api.Grey)), k, api.Known{}, api.ErrForm)
		reads(t, "da without c0", stream(tellScan(api.Small)), k, api.Known{}, api.ErrForm)
		b := tellHead(api.Scan{W: 8, H: 9, Kind: 1})
		reads(t, "da", b, k, api.Known{Frame: true, Started: true, Scan: api.Scan{W: 8, H: 9, Kind: 1}, At: len(b)}, api.OK)
	}
}

// TestP13_2KnownThatIsNotValid: tables that were known are not checked.
func TestP13_2KnownThatIsNotValid(t *testing.T) {
	for _, s := range notSpecs() {
		k := api.Known{Tables: api.Tables{DC: [2]api.Spec{s, {}}, AC: [2]api.Spec{{}, s}}, HasDC: [2]bool{true, false}}
		k.Tables.Steps[1][5] = -1
		reads(t, "kept", stream(end), k, over(k), api.OK)
	}
}

// drawSegment is a segment at random, most of them such as may be in a stream.
func drawSegment(roll *dice) []byte {
	switch roll.below(9) {
	case 0:
		return seg(0xdb, tellSteps(byte(roll.below(2)), drawSteps(roll))...)
	case 1, 2:
		return seg(0xc4, tellSpec(byte(16*roll.below(2)+roll.below(2)), draw(roll))...)
	case 3, 4:
		return tellFrame(drawScan(roll))
	case 5:
		return tellRestart(roll.below(1 << 16))
	case 6:
		return tellScan(roll.below(4))
	case 7:
		return seg(codes[roll.below(len(codes))], drawBytes(roll.below(5), roll)...)
	}
	return seg(codes[5+roll.below(len(codes)-5)], drawBytes(roll.below(20), roll)...)
}

// TestP13_2AnyStream: streams of segments at random, some with a byte changed,
// left out or put in.
func TestP13_2AnyStream(t *testing.T) {
	roll := dice(23)
	outcomes := map[api.Errno]int{}
	for range 8000 {
		b := raw("ffd8")
		for range roll.below(6) {
			b = slices.Concat(b, drawSegment(&roll))
		}
		if roll.below(3) > 0 {
			b = slices.Concat(b, end)
		}
		at := roll.below(len(b))
		switch roll.below(9) {
		case 0:
			b[at] = drawBytes(1, &roll)[0]
		case 1:
			b = slices.Delete(b, at, at+1)
		case 2:
			b = slices.Insert(b, at, drawBytes(1, &roll)...)
		case 3:
			b[at] ^= 1 << roll.below(8)
		case 4:
			b = slices.Concat(b, end[:1+roll.below(2)])
		}
		k := api.Known{}
		if roll.below(2) == 0 {
			k = known
		}
		reading(t, "any", b, k)
		_, e := wanted(b, k)
		outcomes[e]++
	}
	for _, e := range []api.Errno{api.OK, api.ErrShort, api.ErrForm, api.ErrMore, api.ErrMark} {
		if outcomes[e] < 50 {
			t.Error("outcome", e, "came", outcomes[e], "times")
		}
	}
}

// TestP13_2AnyBytes: bytes at random behind a start.
func TestP13_2AnyBytes(t *testing.T) {
	roll := dice(29)
	for range 20000 {
		b := drawBytes(roll.below(40), &roll)
		reading(t, "any", b, known)
		b = stream(b)
		for i := range b[2:] {
			if b[1+i] == 255 && roll.below(2) == 0 {
				b[2+i] = codes[roll.below(len(codes))]
			} else if roll.below(3) == 0 {
				b[2+i] = byte(roll.below(5))
			}
		}
		reading(t, "any behind a start", b, api.Known{})
	}
}

// TestP13_3Tables: tables that were told are read back.
func TestP13_3Tables(t *testing.T) {
	roll := dice(31)
	for range 300 {
		tables := drawTables(&roll)
		b, e := segment.Tables(tables, false)
		want := over(known)
		want.Tables.Steps[0], want.Tables.DC[0], want.Tables.AC[0] = tables.Steps[0], tables.DC[0], tables.AC[0]
		if e != api.OK {
			t.Fatal("Tables:", e)
		}
		reads(t, "without colour", b, known, want, api.OK)
		b, e = segment.Tables(tables, true)
		want.Tables = tables
		if e != api.OK {
			t.Fatal("Tables:", e)
		}
		reads(t, "with colour", b, known, want, api.OK)
		want = api.Known{Tables: tables, HasSteps: known.HasSteps, HasDC: known.HasDC, HasAC: known.HasAC, Over: true}
		reads(t, "with colour", b, api.Known{}, want, api.OK)
	}
}

// TestP13_3Heads: headers that were told are read back.
func TestP13_3Heads(t *testing.T) {
	roll := dice(37)
	for w := 1; w <= 128; w++ {
		for h := 1; h <= 128; h++ {
			s := api.Scan{W: w, H: h, Kind: roll.below(4), Restart: roll.below(2) * roll.below(1<<16)}
			b, e := segment.Head(s)
			got, f := segment.Read(b, api.Known{})
			if want := (api.Known{Frame: true, Started: true, Scan: s, At: len(b)}); !same(got, want) || e != api.OK || f != api.OK {
				t.Fatal("Read of Head:", s, "is", got, e, f)
			}
		}
	}
	for restart := range 1 << 16 {
		s := api.Scan{W: 16, H: 16, Kind: restart % 4, Restart: restart}
		b, _ := segment.Head(s)
		if got, e := segment.Read(b, api.Known{}); got.Scan != s || !got.Started || e != api.OK {
			t.Fatal("Read of Head:", s, "is", got, e)
		}
	}
}

// TestP13_3TablesAndHeads: a stream of tables and then one of a header, and both
// as one stream.
func TestP13_3TablesAndHeads(t *testing.T) {
	roll := dice(41)
	for range 300 {
		tables, s := drawTables(&roll), drawScan(&roll)
		a, e := segment.Tables(tables, true)
		b, f := segment.Head(s)
		if e != api.OK || f != api.OK {
			t.Fatal(e, f)
		}
		k, _ := segment.Read(a, api.Known{})
		want := api.Known{Tables: tables, HasSteps: known.HasSteps, HasDC: known.HasDC, HasAC: known.HasAC, Frame: true, Started: true, Scan: s, At: len(b)}
		reads(t, "the one and then the other", b, k, want, api.OK)
		both := slices.Concat(a[:len(a)-2], b[2:])
		want.At = len(both)
		reads(t, "both", both, api.Known{}, want, api.OK)
		reads(t, "both", both, known, want, api.OK)
		k, _ = segment.Read(b, known)
		want = api.Known{Tables: tables, HasSteps: known.HasSteps, HasDC: known.HasDC, HasAC: known.HasAC, Over: true}
		reads(t, "the other and then the one", a, k, want, api.OK)
	}
}

// parted is a stream's segments; what has no length stands with the last one.
func parted(b []byte) (l [][]byte) {
	at := 2
	for at < len(b) && b[at+1] != 0xd9 {
		n := 2 + int(b[at+2])<<8 + int(b[at+3])
		l = append(l, b[at:at+n])
		at += n
	}
	return append(l, b[at:])
}

// TestP13_3OthersBetween: e0 to ef and fe between the others change nothing but
// where the scan begins.
func TestP13_3OthersBetween(t *testing.T) {
	roll := dice(43)
	for _, b := range streams() {
		for range 50 {
			want, _ := segment.Read(b, known)
			with := stream()
			for _, part := range parted(b) {
				others := roll.below(3)
				if len(part) == 0 { // behind da, where no segments are read
					others = 0
				}
				for range others {
					with = slices.Concat(with, seg(codes[5+roll.below(17)], drawBytes(roll.below(30), &roll)...))
				}
				with = slices.Concat(with, part)
			}
			if want.Started {
				want.At += len(with) - len(b)
			}
			reads(t, "with others", with, known, want, api.OK)
		}
	}
}

// overwrite puts a number in all places of a list, up to its capacity.
func overwrite(l []int, n int) {
	l = l[:cap(l)]
	for i := range l {
		l[i] = n
	}
}

// roomy is a Huffman table whose values have room behind them.
func roomy(s api.Spec) api.Spec {
	s.Vals = append(slices.Grow(s.Vals[:len(s.Vals):len(s.Vals)], 20), 1, 2, 3)[:len(s.Vals)]
	return s
}

// roomyTables is tables whose values have room behind them.
func roomyTables(t api.Tables) api.Tables {
	for i := range 2 {
		t.DC[i], t.AC[i] = roomy(t.DC[i]), roomy(t.AC[i])
	}
	return t
}

// lists is the lists of tables.
func lists(t api.Tables) [][]int {
	return [][]int{t.DC[0].Vals, t.DC[1].Vals, t.AC[0].Vals, t.AC[1].Vals}
}

// TestKept: what the calls are given stays as it was, and behind its end too.
func TestKept(t *testing.T) {
	roll := dice(47)
	for range 50 {
		tables := roomyTables(drawTables(&roll))
		var before [][]int
		for _, l := range lists(tables) {
			before = append(before, slices.Clone(l[:cap(l)]))
		}
		b, _ := segment.Tables(tables, true)
		segment.Tables(tables, false)
		whole := slices.Concat(b, drawBytes(20, &roll))
		given := slices.Clone(whole)
		segment.Read(whole[:len(b)], api.Known{Tables: tables})
		segment.Read(whole, api.Known{Tables: tables})
		for i, l := range lists(tables) {
			if !slices.Equal(l[:cap(l)], before[i]) {
				t.Error("values are changed, or what is behind them")
			}
		}
		if !bytes.Equal(whole, given) {
			t.Error("bytes are changed, or what is behind them")
		}
	}
}

// TestNewBytes: what Tables and Head tell may be written over, up to its capacity.
func TestNewBytes(t *testing.T) {
	roll := dice(53)
	for range 50 {
		tables, s := drawTables(&roll), drawScan(&roll)
		before := copiedTables(tables)
		for _, tell := range []func() []byte{
			func() []byte { b, _ := segment.Tables(tables, false); return b },
			func() []byte { b, _ := segment.Tables(tables, true); return b },
			func() []byte { b, _ := segment.Head(s); return b },
		} {
			first := tell()
			want := slices.Clone(first)
			second := tell()
			first = first[:cap(first)]
			for i := range first {
				first[i] = 99
			}
			if !bytes.Equal(second, want) || !bytes.Equal(tell(), want) || !sameTables(tables, before) {
				t.Error("bytes are shared")
			}
		}
	}
}

// TestNewKnown: what Read tells shares no list with what it was given, with
// another answer, or with itself.
func TestNewKnown(t *testing.T) {
	roll := dice(59)
	for range 50 {
		shared := draw(&roll)
		shared = roomy(shared)
		k := api.Known{Tables: api.Tables{DC: [2]api.Spec{shared, shared}, AC: [2]api.Spec{shared, shared}}}
		s := draw(&roll)
		for _, b := range [][]byte{
			stream(end), tellTables(drawTables(&roll), false), tellTables(drawTables(&roll), true),
			stream(seg(0xc4, slices.Concat(tellSpec(0, s), tellSpec(1, s), tellSpec(0x10, s))...), end), tellHead(drawScan(&roll)),
		} {
			first, _ := segment.Read(b, k)
			want := copiedKnown(first)
			second, _ := segment.Read(b, k)
			for i := range 4 {
				overwrite(lists(first.Tables)[i], 1000+i)
			}
			for i, l := range lists(first.Tables) {
				if slices.ContainsFunc(l[:cap(l)], func(n int) bool { return n != 1000+i }) {
					t.Error("lists of one answer share memory")
				}
			}
			if !same(second, want) || !sameSpec(k.Tables.DC[0], shared) {
				t.Error("an answer shares memory with another one")
			}
			reads(t, "again", b, k, want, api.OK)
		}
		result, _ := segment.Read(stream(end), k)
		want := copiedKnown(result)
		given := slices.Clone(shared.Vals)
		overwrite(shared.Vals, 7)
		if !same(result, want) || !slices.Equal(result.Tables.AC[1].Vals, given) {
			t.Error("an answer shares memory with what was given")
		}
	}
}

// TestNewOfBytes: what Read tells hangs on the bytes no more.
func TestNewOfBytes(t *testing.T) {
	for _, b := range streams() {
		got, _ := segment.Read(b, known)
		want := copiedKnown(got)
		for i := range b {
			b[i] = 0
		}
		if !same(got, want) {
			t.Error("an answer hangs on the bytes")
		}
	}
}
