package isa

import (
	"bytes"
	"math"
	"slices"
	"testing"

	"midstream/api"
)

// rule is what the chapter says of one Op: the least and the greatest N, the error of another one, and the bytes of N.
type rule struct {
	op        int
	low, high int64
	e         api.Errno
	width     int
}

var rules = []rule{
	{api.InPush, math.MinInt32, math.MaxInt32, api.OK, 4},
	{api.InLoad, 0, 255, api.ErrRange, 1},
	{api.InStore, 0, 255, api.ErrRange, 1},
	{api.InCell, 0, 255, api.ErrRange, 1},
	{api.InKeep, 0, 255, api.ErrRange, 1},
	{api.InIn, 0, 255, api.ErrRange, 1},
	{api.InOut, 0, 255, api.ErrRange, 1},
	{api.InUn, 1, 2, api.ErrOp, 1},
	{api.InBin, 1, 16, api.ErrOp, 1},
	{api.InJump, 0, 65535, api.ErrRange, 2},
	{api.InZero, 0, 65535, api.ErrRange, 2},
}

// notOps are just outside the Ops, below 0 and far away; the lowest bits of some are those of an Op.
var notOps = []int{0, 12, 13, 255, 256, 257, 266, 1<<16 + 2, 1<<32 + 1, 1<<32 + 9, 1<<62 + 3, -1, -2, -11, -255, -1<<32 + 1, math.MaxInt, math.MaxInt - 1, math.MinInt, math.MinInt + 1}

// farOffsets lie outside of every byte string of these tests; a sum with a width overflows at some of them.
var farOffsets = []int{-1, -2, -5, -256, 1 << 31, 1 << 32, 1<<32 + 1, math.MaxInt - 5, math.MaxInt - 1, math.MaxInt, math.MinInt, math.MinInt + 1}

// numbers are the edges of all formats, numbers whose lowest bits are valid ones, and a fixed sequence of all magnitudes.
func numbers() []int32 {
	out := []int32{math.MinInt32, math.MinInt32 + 1, math.MaxInt32, math.MaxInt32 - 1, -65536, -65535, -257, -256, -255, -2, -1}
	for n := range int32(300) {
		out = append(out, n)
	}
	for _, n := range []int32{258, 512, 65534, 65535, 65536, 65537, 65538, 65792, 1 << 24, 1<<24 + 1, 0x01020304, -0x01020304} {
		out = append(out, n)
	}
	x := uint32(2463534242)
	for range 300 {
		x = next(x)
		out = append(out, int32(x)>>(x&31))
	}
	return out
}

// next is the number behind x in a fixed sequence.
func next(x uint32) uint32 {
	x ^= x << 13
	x ^= x >> 17
	return x ^ x<<5
}

// noise is a fixed byte string of a length, other ones for other seeds; about half of the bytes are from 0 to 15, such that Ops are frequent.
func noise(size int, seed uint32) []byte {
	out := make([]byte, size)
	x := 2463534242 + seed
	for i := range out {
		x = next(x)
		out[i] = byte(x >> 24)
		if x>>8&1 == 0 {
			out[i] %= 16
		}
	}
	return out
}

// ruleOf is the rule of an Op, if it is one.
func ruleOf(op int) (rule, bool) {
	at := slices.IndexFunc(rules, func(r rule) bool { return r.op == op })
	if at < 0 {
		return rule{}, false
	}
	return rules[at], true
}

// wantRight is the error that the chapter names for an instruction.
func wantRight(i api.Ins) api.Errno {
	r, ok := ruleOf(i.Op)
	if !ok {
		return api.ErrOp
	}
	if int64(i.N) < r.low || int64(i.N) > r.high {
		return r.e
	}
	return api.OK
}

// wantBytes is the encoding of a valid instruction, found by division.
func wantBytes(i api.Ins) []byte {
	r, _ := ruleOf(i.Op)
	n := int64(i.N)
	if n < 0 {
		n += 1 << 32
	}
	out := []byte{byte(i.Op)}
	for range r.width {
		out = append(out, byte(n%256))
		n /= 256
	}
	return out
}

// wantRead is the answer of Read in the chapter's words.
func wantRead(b []byte, at int) (api.Ins, int, api.Errno) {
	if at < 0 || at > len(b) {
		return api.Ins{}, 0, api.ErrArg
	}
	if at == len(b) {
		return api.Ins{}, 0, api.ErrShort
	}
	r, ok := ruleOf(int(b[at]))
	if !ok {
		return api.Ins{}, 0, api.ErrOp
	}
	if len(b)-at < 1+r.width {
		return api.Ins{}, 0, api.ErrShort
	}
	n := int64(0)
	for k := r.width; k > 0; k-- {
		n = n*256 + int64(b[at+k])
	}
	if n > math.MaxInt32 {
		n -= 1 << 32
	}
	i := api.Ins{Op: r.op, N: int32(n)}
	if e := wantRight(i); e != api.OK {
		return api.Ins{}, 0, e
	}
	return i, at + 1 + r.width, api.OK
}

// valid are valid instructions of every Op: those of the edges, and many more.
func valid() []api.Ins {
	var out []api.Ins
	for _, r := range rules {
		for _, n := range append(numbers(), int32(r.low), int32(r.high)) {
			if i := (api.Ins{Op: r.op, N: n}); wantRight(i) == api.OK {
				out = append(out, i)
			}
		}
	}
	return out
}

// invalid are instructions that are not valid, for each reason.
func invalid() []api.Ins {
	return []api.Ins{
		{}, {Op: 12}, {Op: -1, N: 1}, {Op: 1<<32 + 1, N: 1}, {Op: math.MaxInt}, {Op: math.MinInt},
		{Op: api.InUn, N: 0}, {Op: api.InUn, N: 3}, {Op: api.InUn, N: -1}, {Op: api.InUn, N: 257},
		{Op: api.InBin, N: 0}, {Op: api.InBin, N: 17}, {Op: api.InBin, N: -1}, {Op: api.InBin, N: 257},
		{Op: api.InJump, N: -1}, {Op: api.InJump, N: 65536}, {Op: api.InZero, N: -1}, {Op: api.InZero, N: 65536},
		{Op: api.InLoad, N: -1}, {Op: api.InStore, N: 256}, {Op: api.InCell, N: -1}, {Op: api.InKeep, N: 256}, {Op: api.InIn, N: -1}, {Op: api.InOut, N: 256},
	}
}

// code is a fixed sequence of valid instructions of all Ops.
func code(count int) []api.Ins {
	all := valid()
	out := make([]api.Ins, 0, count)
	x := uint32(count) + 1
	for range count {
		x = next(x)
		out = append(out, all[x%uint32(len(all))])
	}
	return out
}

// joined are the encodings of valid instructions, one after the other.
func joined(l []api.Ins) []byte {
	var out []byte
	for _, i := range l {
		out = append(out, wantBytes(i)...)
	}
	return out
}

// roomy is a copy of b within greater memory, which holds marks behind b.
func roomy(b []byte) []byte {
	whole := bytes.Repeat([]byte{0xa5}, len(b)+32)
	copy(whole, b)
	return whole[:len(b)]
}

// untouched is whether a slice of roomy is still b, its marks included.
func untouched(got, b []byte) bool {
	whole := got[:cap(got)]
	return bytes.Equal(whole[:len(b)], b) && bytes.Equal(whole[len(b):], bytes.Repeat([]byte{0xa5}, len(whole)-len(b)))
}

// roomyCode is roomy for instructions.
func roomyCode(l []api.Ins) []api.Ins {
	whole := slices.Repeat([]api.Ins{{Op: 77, N: 77}}, len(l)+32)
	copy(whole, l)
	return whole[:len(l)]
}

// untouchedCode is untouched for instructions.
func untouchedCode(got, l []api.Ins) bool {
	whole := got[:cap(got)]
	return slices.Equal(whole[:len(l)], l) && slices.Equal(whole[len(l):], slices.Repeat([]api.Ins{{Op: 77, N: 77}}, len(whole)-len(l)))
}

// spoil writes over a result, its spare capacity included.
func spoil(b []byte) {
	b = b[:cap(b)]
	for i := range b {
		b[i] ^= 0xff
	}
}

// spoilCode is spoil for instructions.
func spoilCode(l []api.Ins) {
	l = l[:cap(l)]
	for i := range l {
		l[i] = api.Ins{Op: -l[i].Op - 1, N: ^l[i].N}
	}
}

// reads expects an answer of Read.
func reads(t *testing.T, b []byte, at int, i api.Ins, to int, e api.Errno) {
	t.Helper()
	if gotI, gotTo, gotE := Read(b, at); gotI != i || gotTo != to || gotE != e {
		t.Errorf("Read(%.20x, %d) of %d bytes = %v, %d, %d, want %v, %d, %d", b, at, len(b), gotI, gotTo, gotE, i, to, e)
	}
}

// stops expects that Decode returns an error, the offset, and no instructions.
func stops(t *testing.T, b []byte, e api.Errno, at int) {
	t.Helper()
	if l, gotE, gotAt := Decode(b); len(l) != 0 || gotE != e || gotAt != at {
		t.Errorf("Decode of %d bytes %.20x = %d instructions, %d, %d, want %d, %d", len(b), b, len(l), gotE, gotAt, e, at)
	}
}

// P8.1: every Op with the edges of its N and the numbers just outside, one by one.
func TestRightCases(t *testing.T) {
	for _, c := range []struct {
		op   int
		n    int32
		want api.Errno
	}{
		{api.InPush, math.MinInt32, api.OK}, {api.InPush, math.MaxInt32, api.OK}, {api.InPush, 0, api.OK}, {api.InPush, -1, api.OK},
		{api.InUn, 0, api.ErrOp}, {api.InUn, api.UnNeg, api.OK}, {api.InUn, api.UnNot, api.OK}, {api.InUn, 3, api.ErrOp}, {api.InUn, -1, api.ErrOp}, {api.InUn, 256, api.ErrOp},
		{api.InBin, 0, api.ErrOp}, {api.InBin, api.OpAdd, api.OK}, {api.InBin, api.OpGe, api.OK}, {api.InBin, 17, api.ErrOp}, {api.InBin, -1, api.ErrOp}, {api.InBin, 256, api.ErrOp},
		{api.InJump, -1, api.ErrRange}, {api.InJump, 0, api.OK}, {api.InJump, 65535, api.OK}, {api.InJump, 65536, api.ErrRange},
		{api.InZero, -1, api.ErrRange}, {api.InZero, 0, api.OK}, {api.InZero, 65535, api.OK}, {api.InZero, 65536, api.ErrRange},
	} {
		if got := Right(api.Ins{Op: c.op, N: c.n}); got != c.want {
			t.Errorf("Right of {%d, %d} = %d, want %d", c.op, c.n, got, c.want)
		}
	}
	for _, op := range []int{api.InLoad, api.InStore, api.InCell, api.InKeep, api.InIn, api.InOut} {
		for n, want := range map[int32]api.Errno{-1: api.ErrRange, 0: api.OK, 255: api.OK, 256: api.ErrRange} {
			if got := Right(api.Ins{Op: op, N: n}); got != want {
				t.Errorf("Right of {%d, %d} = %d, want %d", op, n, got, want)
			}
		}
	}
}

// P8.1: every Op with every number of the edges and of a sequence, and the size of each encoding.
func TestRightAndSize(t *testing.T) {
	for _, r := range rules {
		for _, n := range append(numbers(), int32(r.low), int32(r.high)) {
			i := api.Ins{Op: r.op, N: n}
			want, size := wantRight(i), 0
			if want == api.OK {
				size = 1 + r.width
			}
			if got, gotSize := Right(i), Size(i); got != want || gotSize != size {
				t.Errorf("Right and Size of %v = %d, %d, want %d, %d", i, got, gotSize, want, size)
			}
		}
	}
}

// P8.1: the sizes as the chapter's section 'Words' says them.
func TestSizeCases(t *testing.T) {
	for op, want := range map[int]int{
		api.InPush: 5, api.InJump: 3, api.InZero: 3, api.InUn: 2, api.InBin: 2,
		api.InLoad: 2, api.InStore: 2, api.InCell: 2, api.InKeep: 2, api.InIn: 2, api.InOut: 2,
	} {
		if got := Size(api.Ins{Op: op, N: 1}); got != want {
			t.Errorf("Size of {%d, 1} = %d, want %d", op, got, want)
		}
	}
	for _, i := range invalid() {
		if got := Size(i); got != 0 {
			t.Errorf("Size of %v = %d", i, got)
		}
	}
}

// P8.1: what is no Op is ErrOp, whatever N is, also one that no format has.
func TestRightOfNoOp(t *testing.T) {
	for _, op := range notOps {
		for _, n := range numbers() {
			i := api.Ins{Op: op, N: n}
			if got, size := Right(i), Size(i); got != api.ErrOp || size != 0 {
				t.Errorf("Right and Size of %v = %d, %d", i, got, size)
			}
		}
	}
}

// P8.2: the examples, and every byte of a number in its place.
func TestBytesCases(t *testing.T) {
	for _, c := range []struct {
		i    api.Ins
		want []byte
	}{
		{api.Ins{Op: api.InPush, N: -2}, []byte{1, 0xfe, 0xff, 0xff, 0xff}},
		{api.Ins{Op: api.InPush, N: 0x01020304}, []byte{1, 4, 3, 2, 1}},
		{api.Ins{Op: api.InPush, N: math.MinInt32}, []byte{1, 0, 0, 0, 0x80}},
		{api.Ins{Op: api.InPush, N: math.MaxInt32}, []byte{1, 0xff, 0xff, 0xff, 0x7f}},
		{api.Ins{Op: api.InPush, N: 0}, []byte{1, 0, 0, 0, 0}},
		{api.Ins{Op: api.InLoad, N: 255}, []byte{2, 255}},
		{api.Ins{Op: api.InStore, N: 0}, []byte{3, 0}},
		{api.Ins{Op: api.InCell, N: 7}, []byte{4, 7}},
		{api.Ins{Op: api.InKeep, N: 8}, []byte{5, 8}},
		{api.Ins{Op: api.InIn, N: 9}, []byte{6, 9}},
		{api.Ins{Op: api.InOut, N: 10}, []byte{7, 10}},
		{api.Ins{Op: api.InUn, N: api.UnNot}, []byte{8, 2}},
		{api.Ins{Op: api.InBin, N: api.OpAdd}, []byte{9, 1}},
		{api.Ins{Op: api.InBin, N: api.OpGe}, []byte{9, 16}},
		{api.Ins{Op: api.InJump, N: 65535}, []byte{10, 255, 255}},
		{api.Ins{Op: api.InJump, N: 0}, []byte{10, 0, 0}},
		{api.Ins{Op: api.InZero, N: 258}, []byte{11, 2, 1}},
	} {
		if got, e := Bytes(c.i); !bytes.Equal(got, c.want) || e != api.OK {
			t.Errorf("Bytes of %v = %x, %d, want %x", c.i, got, e, c.want)
		}
		reads(t, c.want, 0, c.i, len(c.want), api.OK)
	}
}

// P8.2: the bytes are the encoding, and an instruction that is not valid has the error of Right and no bytes.
func TestBytesOfAll(t *testing.T) {
	for _, i := range valid() {
		if got, e := Bytes(i); !bytes.Equal(got, wantBytes(i)) || e != api.OK || Size(i) != len(got) {
			t.Errorf("Bytes of %v = %x, %d, want %x", i, got, e, wantBytes(i))
		}
	}
	for _, op := range append(slices.Clone(notOps), 1, 2, 3, 4, 5, 6, 7, 8, 9, 10, 11) {
		for _, n := range numbers() {
			i := api.Ins{Op: op, N: n}
			want := wantRight(i)
			if got, e := Bytes(i); e != want || (len(got) == 0) != (want != api.OK) {
				t.Errorf("Bytes of %v = %x, %d, want %d", i, got, e, want)
			}
		}
	}
}

// P8.2: the examples, and each error of Read.
func TestReadErrors(t *testing.T) {
	for _, c := range []struct {
		b  []byte
		at int
		e  api.Errno
	}{
		{nil, 0, api.ErrShort}, {[]byte{}, 0, api.ErrShort}, {nil, 1, api.ErrArg}, {nil, -1, api.ErrArg},
		{[]byte{9, 17}, 0, api.ErrOp}, {[]byte{9, 0}, 0, api.ErrOp}, {[]byte{9, 255}, 0, api.ErrOp},
		{[]byte{8, 0}, 0, api.ErrOp}, {[]byte{8, 3}, 0, api.ErrOp}, {[]byte{8, 255}, 0, api.ErrOp},
		{[]byte{10, 1}, 0, api.ErrShort}, {[]byte{0}, 0, api.ErrOp}, {[]byte{12}, 0, api.ErrOp}, {[]byte{255}, 0, api.ErrOp},
		{[]byte{2, 5}, 2, api.ErrShort}, {[]byte{2, 5}, 3, api.ErrArg}, {[]byte{2, 5}, -1, api.ErrArg},
		{[]byte{2, 5, 2}, 2, api.ErrShort}, {[]byte{2, 5, 0}, 2, api.ErrOp},
		// A first byte that is no Op counts before an end that is too early, and that before a wrong N.
		{[]byte{0}, 1, api.ErrShort}, {[]byte{0}, 2, api.ErrArg}, {[]byte{8}, 0, api.ErrShort}, {[]byte{9}, 0, api.ErrShort},
	} {
		reads(t, c.b, c.at, api.Ins{}, 0, c.e)
	}
}

// P8.2: an offset below 0 or above the length is ErrArg, whatever the bytes are; the length itself is ErrShort.
func TestReadOffsets(t *testing.T) {
	for _, b := range [][]byte{nil, {}, {0}, {2}, {2, 5}, {9, 17}, {1, 2, 3, 4, 5}, noise(40, 1)} {
		for _, at := range append(slices.Clone(farOffsets), len(b)+1, len(b)+2, len(b)+5, -len(b)-1) {
			reads(t, b, at, api.Ins{}, 0, api.ErrArg)
		}
		reads(t, b, len(b), api.Ins{}, 0, api.ErrShort)
	}
}

// P8.2: the spare capacity behind bytes is not read: an encoding that goes on there is short.
func TestReadIgnoresSpare(t *testing.T) {
	for _, i := range valid() {
		whole := wantBytes(i)
		for size := range len(whole) {
			reads(t, whole[:size], 0, api.Ins{}, 0, api.ErrShort)
		}
		stops(t, whole[:1], api.ErrShort, 0)
	}
}

// P8.2: bytes that end before the end of an encoding, byte by byte, at offsets other than 0 too.
func TestReadCutEncodings(t *testing.T) {
	for _, r := range rules {
		for before := range 4 {
			for size := range r.width {
				b := append(bytes.Repeat([]byte{2}, before), byte(r.op))
				b = append(b, make([]byte, size)...)
				reads(t, b, before, api.Ins{}, 0, api.ErrShort)
			}
		}
	}
}

// P8.2: a first byte that is no Op is ErrOp, however many bytes follow.
func TestReadFirstBytes(t *testing.T) {
	for first := range 256 {
		if _, ok := ruleOf(first); ok {
			continue
		}
		for size := range 8 {
			reads(t, append([]byte{byte(first)}, bytes.Repeat([]byte{1}, size)...), 0, api.Ins{}, 0, api.ErrOp)
		}
	}
}

// P8.2: every N of one byte and of two, of every Op that has them, by the chapter's words.
func TestReadEveryNumber(t *testing.T) {
	for first := range 256 {
		for n := range 65536 {
			if first > 13 && n%257 != 0 {
				continue
			}
			b := []byte{byte(first), byte(n), byte(n >> 8)}
			i, to, e := wantRead(b, 0)
			reads(t, b, 0, i, to, e)
		}
	}
}

// P8.2: bytes of many lengths, at every offset, by the chapter's words.
func TestReadNoise(t *testing.T) {
	for size := range 60 {
		for seed := range uint32(20) {
			b := noise(size, seed)
			for at := -3; at < size+4; at++ {
				i, to, e := wantRead(b, at)
				reads(t, b, at, i, to, e)
			}
		}
	}
}

// P8.2: an instruction is found at its offset, whatever is before and behind it.
func TestReadAtOffsets(t *testing.T) {
	for k, i := range valid() {
		before, behind := noise(k%7, uint32(k)), noise(k%5, uint32(k)+1)
		own := wantBytes(i)
		b := slices.Concat(before, own, behind)
		reads(t, b, len(before), i, len(before)+len(own), api.OK)
	}
}

// P8.3: codes of few and of the most instructions are their encodings, one after the other.
func TestEncodeCounts(t *testing.T) {
	for _, count := range []int{0, 1, 2, 3, 11, 100, 599, 600} {
		l := code(count)
		if got, e := Encode(l); !bytes.Equal(got, joined(l)) || e != api.OK {
			t.Errorf("Encode of %d instructions = %d bytes, %d", count, len(got), e)
		}
	}
	if got, e := Encode(nil); len(got) != 0 || e != api.OK {
		t.Errorf("Encode of nil = %x, %d", got, e)
	}
}

// P8.3: more than 600 instructions are too many, also if some of them, or all, are not valid.
func TestEncodeTooMany(t *testing.T) {
	for _, count := range []int{601, 602, 1200, 70000} {
		l := code(count)
		if got, e := Encode(l); len(got) != 0 || e != api.ErrBig {
			t.Errorf("Encode of %d instructions = %d bytes, %d", count, len(got), e)
		}
		for _, at := range []int{0, 300, 599, 600, count - 1} {
			wrong := slices.Clone(l)
			wrong[at] = api.Ins{Op: api.InJump, N: -1}
			if got, e := Encode(wrong); len(got) != 0 || e != api.ErrBig {
				t.Errorf("Encode of %d instructions, wrong at %d = %d bytes, %d", count, at, len(got), e)
			}
		}
		if got, e := Encode(make([]api.Ins, count)); len(got) != 0 || e != api.ErrBig {
			t.Errorf("Encode of %d zero instructions = %d bytes, %d", count, len(got), e)
		}
	}
}

// P8.3: one instruction that is not valid, first, in the middle or last, gives its error and no bytes.
func TestEncodeWrong(t *testing.T) {
	for _, count := range []int{1, 2, 3, 51, 600} {
		for _, at := range []int{0, count / 2, count - 1} {
			for _, i := range invalid() {
				l := code(count)
				l[at] = i
				if got, e := Encode(l); len(got) != 0 || e != wantRight(i) {
					t.Errorf("Encode of %d with %v at %d = %d bytes, %d, want %d", count, i, at, len(got), e, wantRight(i))
				}
			}
		}
	}
}

// P8.3: of several that are not valid the first one counts, not the error that the document lists first.
func TestEncodeFirstWrong(t *testing.T) {
	for _, first := range invalid() {
		for _, second := range invalid() {
			l := code(9)
			l[4], l[6], l[8] = first, second, second
			if got, e := Encode(l); len(got) != 0 || e != wantRight(first) {
				t.Errorf("Encode with %v before %v = %d bytes, %d", first, second, len(got), e)
			}
		}
	}
}

// P8.3: the bytes of few and of the most instructions are decoded, and the position is 0.
func TestDecodeCounts(t *testing.T) {
	for _, count := range []int{0, 1, 2, 3, 11, 100, 599, 600} {
		l := code(count)
		if got, e, at := Decode(joined(l)); !slices.Equal(got, l) || e != api.OK || at != 0 {
			t.Errorf("Decode of %d instructions = %d, %d, %d", count, len(got), e, at)
		}
	}
	if got, e, at := Decode(nil); len(got) != 0 || e != api.OK || at != 0 {
		t.Errorf("Decode of nil = %v, %d, %d", got, e, at)
	}
	if got, e, at := Decode([]byte{}); len(got) != 0 || e != api.OK || at != 0 {
		t.Errorf("Decode of no bytes = %v, %d, %d", got, e, at)
	}
}

// P8.3: bytes behind 600 instructions are ErrBig at their offset, whatever they are: an instruction, the beginning of one, none at all.
func TestDecodeTooMany(t *testing.T) {
	full := joined(code(600))
	for last := range 256 {
		stops(t, append(bytes.Clone(full), byte(last)), api.ErrBig, len(full))
	}
	for _, more := range [][]byte{{2, 5}, {9, 17}, {8, 0}, {10, 1}, {1, 0, 0, 0}, {0, 0, 0}, {99, 99}, joined(code(1)), joined(code(1000)), noise(5000, 3)} {
		stops(t, slices.Concat(full, more), api.ErrBig, len(full))
	}
	pushes := joined(slices.Repeat([]api.Ins{{Op: api.InPush, N: 1}}, 601))
	stops(t, pushes, api.ErrBig, 3000)
	stops(t, pushes[:3001], api.ErrBig, 3000)
	stops(t, pushes[:2999], api.ErrShort, 2995)
}

// P8.3: what is wrong within the first 600 instructions counts before the bytes behind them.
func TestDecodeWrongBeforeTooMany(t *testing.T) {
	l := slices.Repeat([]api.Ins{{Op: api.InIn, N: 1}}, 700)
	for _, at := range []int{0, 300, 599} {
		b := joined(l)
		b[2*at] = 0
		stops(t, b, api.ErrOp, 2*at)
	}
	b := joined(l)
	b[2*600] = 0
	stops(t, b, api.ErrBig, 1200)
}

// P8.3: each error of Read, with the offset at which its instruction begins: first, in the middle, last.
func TestDecodeErrors(t *testing.T) {
	stops(t, []byte{2, 5, 12}, api.ErrOp, 2)
	for _, count := range []int{0, 1, 5, 599} {
		before := joined(code(count))
		at := len(before)
		for _, wrong := range [][]byte{{0}, {12}, {255, 1}, {8, 0}, {8, 3}, {9, 0}, {9, 17}, {9, 255}} {
			stops(t, slices.Concat(before, wrong), api.ErrOp, at)
			stops(t, slices.Concat(before, wrong, []byte{2, 5, 1}), api.ErrOp, at)
		}
		for _, r := range rules {
			for size := range r.width {
				cut := append([]byte{byte(r.op)}, make([]byte, size)...)
				stops(t, slices.Concat(before, cut), api.ErrShort, at)
			}
		}
	}
}

// P8.3: bytes of any kind are decoded as Read reads them, one instruction after the other.
func TestDecodeNoise(t *testing.T) {
	for size := range 40 {
		for seed := range uint32(200) {
			b := noise(size, seed)
			var l []api.Ins
			at, e := 0, api.OK
			for at < len(b) && e == api.OK {
				var i api.Ins
				var to int
				if i, to, e = wantRead(b, at); e == api.OK {
					l, at = append(l, i), to
				}
			}
			if e != api.OK {
				stops(t, b, e, at)
			} else if got, e, at := Decode(b); !slices.Equal(got, l) || e != api.OK || at != 0 {
				t.Errorf("Decode of %x = %v, %d, %d, want %v", b, got, e, at, l)
			}
		}
	}
}

// P8.4: what is encoded is decoded, instruction by instruction and as a code.
func TestDecodeOfEncode(t *testing.T) {
	for _, i := range valid() {
		b, e := Bytes(i)
		if e != api.OK {
			t.Errorf("Bytes of %v: %d", i, e)
		}
		reads(t, b, 0, i, len(b), api.OK)
	}
	for count := range 601 {
		l := code(count)
		b, e := Encode(l)
		if e != api.OK {
			t.Errorf("Encode of %d instructions: %d", count, e)
		}
		if got, e, at := Decode(b); !slices.Equal(got, l) || e != api.OK || at != 0 {
			t.Errorf("Decode of Encode of %d instructions = %d, %d, %d", count, len(got), e, at)
		}
	}
}

// P8.4: what is decoded is encoded to the same bytes: none of the strings of up to three bytes, nor of longer ones, is a second encoding.
func TestEncodeOfDecode(t *testing.T) {
	again := func(b []byte) {
		l, e, _ := Decode(b)
		if e != api.OK {
			return
		}
		if got, e := Encode(l); !bytes.Equal(got, b) || e != api.OK {
			t.Errorf("Encode of Decode of %x = %x, %d", b, got, e)
		}
	}
	for n := range 65536 {
		again([]byte{byte(n)})
		again([]byte{byte(n), byte(n >> 8)})
		for _, op := range []byte{api.InJump, api.InZero} {
			again([]byte{op, byte(n), byte(n >> 8)})
		}
		again([]byte{api.InPush, byte(n), byte(n >> 8), byte(n * 7), byte(n >> 5)})
	}
	for size := range 24 {
		for seed := range uint32(2000) {
			again(noise(size, seed))
		}
	}
}

// P8.4: no two instructions share an encoding, and none is the beginning of another's.
func TestEncodingsDiffer(t *testing.T) {
	owner := map[string]api.Ins{}
	for _, i := range valid() {
		b, _ := Bytes(i)
		if other, ok := owner[string(b)]; ok && other != i {
			t.Errorf("%v and %v are both %x", i, other, b)
		}
		owner[string(b)] = i
	}
	for b, i := range owner {
		for size := range len(b) {
			if other, ok := owner[b[:size]]; ok {
				t.Errorf("%x of %v begins with the one of %v", b, i, other)
			}
		}
	}
}

// R4: arguments stay as they were, their spare capacity included, and no result shares memory with them.
func TestArgumentsStay(t *testing.T) {
	for _, count := range []int{0, 1, 2, 50, 600, 601} {
		l := code(count)
		arg := roomyCode(l)
		got, _ := Encode(arg)
		spoil(got)
		if !untouchedCode(arg, l) {
			t.Errorf("Encode changed its %d instructions", count)
		}
		for _, more := range [][]byte{nil, {0}, {1, 2}} {
			b := slices.Concat(joined(l), more)
			argBytes := roomy(b)
			decoded, _, _ := Decode(argBytes)
			spoilCode(decoded)
			for at := -1; at < len(b)+2; at++ {
				Read(argBytes, at)
			}
			if !untouched(argBytes, b) {
				t.Errorf("%d bytes were changed", len(b))
			}
		}
	}
	l := append(code(5), api.Ins{})
	arg := roomyCode(l)
	Encode(arg)
	if !untouchedCode(arg, l) {
		t.Error("Encode changed instructions that it refuses")
	}
}

// R4 and R5: what is done to a result or, afterwards, to an argument is not seen in another result.
func TestResultsAreNew(t *testing.T) {
	for _, i := range valid() {
		first, _ := Bytes(i)
		spoil(first)
		if second, e := Bytes(i); !bytes.Equal(second, wantBytes(i)) || e != api.OK {
			t.Errorf("the second Bytes of %v = %x, %d", i, second, e)
		}
	}
	l := code(40)
	b, _ := Encode(l)
	again, _ := Encode(l)
	spoil(again)
	want := joined(l)
	if !bytes.Equal(b, want) {
		t.Errorf("the bytes became %x", b)
	}
	first, _, _ := Decode(b)
	second, _, _ := Decode(b)
	spoilCode(second)
	spoil(b)
	if !slices.Equal(first, l) {
		t.Errorf("the instructions became %v", first)
	}
	spoilCode(l)
	if third, e, _ := Decode(want); !slices.Equal(third, first) || e != api.OK {
		t.Errorf("the third Decode = %v, %d", third, e)
	}
}
