package octet

import (
	"bytes"
	"math"
	"math/big"
	"slices"
	"testing"

	"midstream/api"
)

// notWidths are widths of no number, among them some whose lowest bits are those of a width.
var notWidths = []int{0, -1, -2, -8, 9, 10, 16, 64, 255, 256, 257, 1<<16 + 1, 1<<32 + 1, 1<<61 + 1, -1<<32 + 4, -1<<61 + 1, math.MaxInt, math.MinInt, math.MinInt + 1}

// farOffsets lie outside of every byte string of these tests; a sum with a width or a length overflows at some of them.
var farOffsets = []int{-1, -2, -8, -65536, 1 << 31, 1 << 32, 1<<32 + 1, math.MaxInt - 8, math.MaxInt - 1, math.MaxInt, math.MinInt, math.MinInt + 1}

// sequence is a fixed sequence of numbers of all magnitudes.
func sequence(count int) []uint64 {
	out := make([]uint64, 0, count)
	x := uint64(88172645463325252)
	for range count {
		x ^= x << 13
		x ^= x >> 7
		x ^= x << 17
		out = append(out, x>>(x&63))
	}
	return out
}

// noise is a fixed byte string of a length.
func noise(size int) []byte {
	out := make([]byte, size)
	x := uint32(2463534242)
	for i := range out {
		x ^= x << 13
		x ^= x >> 17
		x ^= x << 5
		out[i] = byte(x >> 24)
	}
	return out
}

// limit is the least number that is none of the width, found without any wrap-round of Go's.
func limit(width int) *big.Int {
	return new(big.Int).Exp(big.NewInt(256), big.NewInt(int64(width)), nil)
}

// fits is whether n is a number of the width.
func fits(width int, n uint64) bool {
	return new(big.Int).SetUint64(n).Cmp(limit(width)) < 0
}

// encoding is what the chapter's section 'Words' says, found by division.
func encoding(width int, n uint64) []byte {
	var out []byte
	for len(out) < width {
		out = append(out, byte(n%256))
		n /= 256
	}
	return out
}

// numbers are the edges of every width and a sequence.
func numbers() []uint64 {
	out := []uint64{0, 1, 2, 127, 128, 254, 255, math.MaxUint64, math.MaxUint64 - 1, 1 << 63, 1<<63 - 1, 0x0102030405060708}
	for k := range 8 {
		n := uint64(1) << (8 * k)
		out = append(out, n-1, n, n+1, n<<7)
	}
	return append(out, sequence(200)...)
}

// roomy is a copy of b within greater memory, which holds marks behind b.
func roomy(b []byte) []byte {
	whole := bytes.Repeat([]byte{0xa5}, len(b)+32)
	copy(whole, b)
	return whole[:len(b)]
}

// untouched is whether a slice of roomy is still b, its marks included.
func untouched(got, b []byte) bool {
	whole := got[:cap(got)]
	return bytes.Equal(whole[:len(b)], b) && bytes.Equal(whole[len(b):], bytes.Repeat([]byte{0xa5}, len(whole)-len(b)))
}

// spoil writes over a result, its spare capacity included.
func spoil(b []byte) {
	b = b[:cap(b)]
	for i := range b {
		b[i] ^= 0xff
	}
}

// P2.1: the examples, and every byte of a number in its place.
func TestPutCases(t *testing.T) {
	for _, c := range []struct {
		b     []byte
		width int
		n     uint64
		want  []byte
	}{
		{nil, 2, 258, []byte{2, 1}},
		{[]byte{}, 2, 258, []byte{2, 1}},
		{[]byte{9}, 2, 258, []byte{9, 2, 1}},
		{nil, 1, 0, []byte{0}},
		{nil, 1, 255, []byte{255}},
		{nil, 8, 0, make([]byte, 8)},
		{[]byte{7, 7}, 3, 1, []byte{7, 7, 1, 0, 0}},
		{nil, 4, 0x80000000, []byte{0, 0, 0, 0x80}},
		{nil, 8, 0x0102030405060708, []byte{8, 7, 6, 5, 4, 3, 2, 1}},
		{nil, 8, math.MaxUint64, bytes.Repeat([]byte{255}, 8)},
		{nil, 7, 1<<56 - 1, bytes.Repeat([]byte{255}, 7)},
	} {
		if got, e := Put(c.b, c.width, c.n); !bytes.Equal(got, c.want) || e != api.OK {
			t.Errorf("Put(%v, %d, %d) = %v, %d, want %v", c.b, c.width, c.n, got, e, c.want)
		}
	}
}

// P2.1: every width with numbers that fit and numbers that are too big.
func TestPutWidths(t *testing.T) {
	for width := 1; width <= 8; width++ {
		for _, n := range numbers() {
			for _, b := range [][]byte{nil, {5}, noise(11)} {
				got, e := Put(b, width, n)
				if !fits(width, n) {
					if len(got) != 0 || e != api.ErrBig {
						t.Errorf("Put(%v, %d, %d) = %v, %d, want ErrBig", b, width, n, got, e)
					}
					continue
				}
				if want := slices.Concat(b, encoding(width, n)); !bytes.Equal(got, want) || e != api.OK {
					t.Errorf("Put(%v, %d, %d) = %v, %d, want %v", b, width, n, got, e, want)
				}
			}
		}
	}
}

// P2.1: a width that is none comes before a number that is too big.
func TestPutNoWidth(t *testing.T) {
	for _, width := range notWidths {
		for _, n := range []uint64{0, 1, 256, math.MaxUint64} {
			if got, e := Put([]byte{1, 2}, width, n); len(got) != 0 || e != api.ErrArg {
				t.Errorf("Put(.., %d, %d) = %v, %d, want ErrArg", width, n, got, e)
			}
		}
	}
}

// P2.1: the examples and the edges.
func TestGetCases(t *testing.T) {
	b := []byte{8, 7, 6, 5, 4, 3, 2, 0x81}
	for _, c := range []struct {
		b         []byte
		at, width int
		n         uint64
		e         api.Errno
	}{
		{[]byte{2, 1}, 0, 2, 258, api.OK},
		{[]byte{2, 1}, 1, 1, 1, api.OK},
		{[]byte{2, 1}, 1, 2, 0, api.ErrShort},
		{[]byte{2, 1}, 2, 1, 0, api.ErrShort},
		{[]byte{2, 1}, 3, 1, 0, api.ErrArg},
		{[]byte{2, 1}, -1, 1, 0, api.ErrArg},
		{[]byte{2, 1}, 0, 9, 0, api.ErrArg},
		{[]byte{2, 1}, 0, 0, 0, api.ErrArg},
		{[]byte{2, 1}, 0, 8, 0, api.ErrShort},
		{nil, 0, 1, 0, api.ErrShort},
		{nil, 1, 1, 0, api.ErrArg},
		{nil, -1, 1, 0, api.ErrArg},
		{nil, 0, 0, 0, api.ErrArg},
		{b, 0, 8, 0x8102030405060708, api.OK},
		{b, 0, 7, 0x02030405060708, api.OK},
		{b, 1, 7, 0x81020304050607, api.OK},
		{b, 4, 4, 0x81020304, api.OK},
		{b, 7, 1, 0x81, api.OK},
		{b, 1, 8, 0, api.ErrShort},
		{b, 8, 8, 0, api.ErrShort},
		{b, 9, 8, 0, api.ErrArg},
	} {
		if n, e := Get(c.b, c.at, c.width); n != c.n || e != c.e {
			t.Errorf("Get(%v, %d, %d) = %d, %d, want %d, %d", c.b, c.at, c.width, n, e, c.n, c.e)
		}
	}
}

// P2.1: every offset and width of short byte strings.
func TestGetPlaces(t *testing.T) {
	for size := range 20 {
		b := noise(size)
		for at := -2; at <= size+2; at++ {
			for width := -1; width <= 10; width++ {
				var n uint64
				e := api.OK
				switch {
				case width < 1 || width > 8 || at < 0 || at > size:
					e = api.ErrArg
				case at+width > size:
					e = api.ErrShort
				default:
					for i := at + width - 1; i >= at; i-- {
						n = n*256 + uint64(b[i])
					}
				}
				if m, f := Get(b, at, width); m != n || f != e {
					t.Errorf("Get(%v, %d, %d) = %d, %d, want %d, %d", b, at, width, m, f, n, e)
				}
			}
		}
	}
}

// P2.1: bytes behind the length are not there, though the capacity has them.
func TestGetEndsAtLength(t *testing.T) {
	b := roomy([]byte{1, 2, 3})
	if n, e := Get(b, 0, 4); n != 0 || e != api.ErrShort {
		t.Errorf("a number across the length: %d, %d", n, e)
	}
	if n, e := Get(b, 4, 1); n != 0 || e != api.ErrArg {
		t.Errorf("a number behind the length: %d, %d", n, e)
	}
	if x, to, e := GetRun(roomy([]byte{4, 0, 1}), 0); len(x) != 0 || to != 0 || e != api.ErrShort {
		t.Errorf("a run across the length: %v, %d, %d", x, to, e)
	}
}

// P2.1, P2.2: arguments that are far outside.
func TestGetFar(t *testing.T) {
	for _, b := range [][]byte{nil, {2, 0, 1, 1}, noise(40)} {
		for _, at := range farOffsets {
			for _, width := range append([]int{1, 2, 8}, notWidths...) {
				if n, e := Get(b, at, width); n != 0 || e != api.ErrArg {
					t.Errorf("Get(.., %d, %d) = %d, %d, want ErrArg", at, width, n, e)
				}
			}
			if x, to, e := GetRun(b, at); len(x) != 0 || to != 0 || e != api.ErrArg {
				t.Errorf("GetRun(.., %d) = %v, %d, %d, want ErrArg", at, x, to, e)
			}
		}
		for _, width := range notWidths {
			if n, e := Get(b, 0, width); n != 0 || e != api.ErrArg {
				t.Errorf("Get(.., 0, %d) = %d, %d, want ErrArg", width, n, e)
			}
		}
	}
}

// P2.2: the length in two bytes, and the bytes, at all sizes that matter.
func TestPutRun(t *testing.T) {
	for _, b := range [][]byte{nil, {7}, noise(300)} {
		for _, size := range []int{0, 1, 2, 255, 256, 257, 32767, 32768, 65534, 65535} {
			x := noise(size)
			want := slices.Concat(b, []byte{byte(size % 256), byte(size / 256)}, x)
			if got, e := PutRun(b, x); !bytes.Equal(got, want) || e != api.OK {
				t.Errorf("a run of %d bytes behind %d: %d bytes, %d", size, len(b), len(got), e)
			}
		}
		for _, size := range []int{65536, 65537, 1 << 17, 1<<17 + 2} {
			if got, e := PutRun(b, make([]byte, size)); len(got) != 0 || e != api.ErrBig {
				t.Errorf("a run of %d bytes: %d bytes, %d, want ErrBig", size, len(got), e)
			}
		}
	}
	if got, e := PutRun(nil, nil); !bytes.Equal(got, []byte{0, 0}) || e != api.OK {
		t.Errorf("PutRun(nil, nil) = %v, %d", got, e)
	}
}

// P2.2: the bytes of b count nothing towards the limit.
func TestPutRunBehindMuch(t *testing.T) {
	b := noise(70000)
	if got, e := PutRun(b, []byte("ab")); !bytes.Equal(got, append(bytes.Clone(b), 2, 0, 'a', 'b')) || e != api.OK {
		t.Errorf("a run behind 70000 bytes: %d bytes, %d", len(got), e)
	}
}

// P2.2: the examples and the edges.
func TestGetRunCases(t *testing.T) {
	ab := []byte{2, 0, 0x61, 0x62}
	for _, c := range []struct {
		b    []byte
		at   int
		want string
		to   int
		e    api.Errno
	}{
		{ab, 0, "ab", 4, api.OK},
		{ab, 1, "", 0, api.ErrShort},
		{ab, 2, "", 0, api.ErrShort},
		{ab, 3, "", 0, api.ErrShort},
		{ab, 4, "", 0, api.ErrShort},
		{ab, 5, "", 0, api.ErrArg},
		{ab, -1, "", 0, api.ErrArg},
		{ab[:3], 0, "", 0, api.ErrShort},
		{nil, 0, "", 0, api.ErrShort},
		{nil, 1, "", 0, api.ErrArg},
		{[]byte{0}, 0, "", 0, api.ErrShort},
		{[]byte{0, 0}, 0, "", 2, api.OK},
		{[]byte{5, 0, 0}, 1, "", 3, api.OK},
		{[]byte{1, 0}, 0, "", 0, api.ErrShort},
		{[]byte{1, 0, 'x', 'y'}, 0, "x", 3, api.OK},
		{[]byte{9, 9, 1, 0, 'x', 'y'}, 2, "x", 5, api.OK},
		{[]byte{0, 1, 'x'}, 0, "", 0, api.ErrShort},
	} {
		x, to, e := GetRun(c.b, c.at)
		if string(x) != c.want || to != c.to || e != c.e {
			t.Errorf("GetRun(%v, %d) = %q, %d, %d, want %q, %d, %d", c.b, c.at, x, to, e, c.want, c.to, c.e)
		}
	}
}

// P2.2: runs of 256 bytes and more, whole and one byte too short.
func TestGetRunLong(t *testing.T) {
	for _, size := range []int{255, 256, 300, 32768, 65535} {
		x := noise(size)
		b := slices.Concat([]byte{3, 3, 3, byte(size % 256), byte(size / 256)}, x)
		if got, to, e := GetRun(b, 3); !bytes.Equal(got, x) || to != size+5 || e != api.OK {
			t.Errorf("a run of %d bytes: %d bytes, %d, %d", size, len(got), to, e)
		}
		if got, to, e := GetRun(b[:size+4], 3); len(got) != 0 || to != 0 || e != api.ErrShort {
			t.Errorf("a run of %d bytes without its last: %d bytes, %d, %d", size, len(got), to, e)
		}
	}
}

// P2.3: the example, and last groups of one, two and three bytes.
func TestWordsCases(t *testing.T) {
	for _, c := range []struct {
		b    []byte
		want []uint32
	}{
		{nil, nil},
		{[]byte{}, nil},
		{[]byte{0}, []uint32{0xffffff00}},
		{[]byte{1, 2}, []uint32{0xffff0201}},
		{[]byte{1, 2, 3}, []uint32{0xff030201}},
		{[]byte{1, 2, 3, 4}, []uint32{0x04030201}},
		{[]byte{0, 0, 0, 0x80}, []uint32{0x80000000}},
		{[]byte{1, 2, 3, 4, 5}, []uint32{0x04030201, 0xffffff05}},
		{[]byte{1, 2, 3, 4, 0, 0}, []uint32{0x04030201, 0xffff0000}},
		{[]byte{1, 2, 3, 4, 5, 6, 7}, []uint32{0x04030201, 0xff070605}},
		{[]byte{1, 2, 3, 4, 5, 6, 7, 0xf8}, []uint32{0x04030201, 0xf8070605}},
	} {
		if got := Words(c.b); !slices.Equal(got, c.want) {
			t.Errorf("Words(%v) = %x, want %x", c.b, got, c.want)
		}
	}
}

// P2.3: a word beyond the length is filled with 255, not with what the capacity has.
func TestWordsFill(t *testing.T) {
	if got := Words(roomy([]byte{1, 2, 3, 4, 5})); !slices.Equal(got, []uint32{0x04030201, 0xffffff05}) {
		t.Errorf("%x", got)
	}
}

// P2.3.
func TestBytesCases(t *testing.T) {
	for _, c := range []struct {
		w    []uint32
		want []byte
	}{
		{nil, nil},
		{[]uint32{}, nil},
		{[]uint32{0}, []byte{0, 0, 0, 0}},
		{[]uint32{0x04030201}, []byte{1, 2, 3, 4}},
		{[]uint32{0x80000000}, []byte{0, 0, 0, 0x80}},
		{[]uint32{0x04030201, 0xffffff05}, []byte{1, 2, 3, 4, 5, 255, 255, 255}},
		{[]uint32{math.MaxUint32, 0, 0x01020304}, []byte{255, 255, 255, 255, 0, 0, 0, 0, 4, 3, 2, 1}},
	} {
		if got := Bytes(c.w); !bytes.Equal(got, c.want) {
			t.Errorf("Bytes(%x) = %v, want %v", c.w, got, c.want)
		}
	}
}

// P2.4: the edges, written out.
func TestSignedCases(t *testing.T) {
	for _, c := range []struct {
		w uint32
		a int32
	}{
		{0, 0},
		{1, 1},
		{255, 255},
		{65536, 65536},
		{1<<31 - 1, math.MaxInt32},
		{1 << 31, math.MinInt32},
		{1<<31 + 1, math.MinInt32 + 1},
		{0xfffffffe, -2},
		{math.MaxUint32, -1},
	} {
		if Signed(c.w) != c.a {
			t.Errorf("Signed(%d) = %d, want %d", c.w, Signed(c.w), c.a)
		}
		if Plain(c.a) != c.w {
			t.Errorf("Plain(%d) = %d, want %d", c.a, Plain(c.a), c.w)
		}
	}
}

// P2.4: a sequence against numbers of 64 bits, and both ways round.
func TestSigned(t *testing.T) {
	for _, n := range sequence(2000) {
		w := uint32(n)
		want := int64(w)
		if want >= 1<<31 {
			want -= 1 << 32
		}
		a := Signed(w)
		if int64(a) != want {
			t.Errorf("Signed(%d) = %d, want %d", w, a, want)
		}
		if Plain(a) != w {
			t.Errorf("Plain(%d) = %d, want %d", a, Plain(a), w)
		}
	}
}

// P2.5: numbers laid down one after the other are read at their offsets.
func TestNumbersReturn(t *testing.T) {
	type place struct {
		at, width int
		n         uint64
	}
	var places []place
	var b []byte
	for _, n := range numbers() {
		for width := 1; width <= 8; width++ {
			if !fits(width, n) {
				continue
			}
			places = append(places, place{len(b), width, n})
			var e api.Errno
			if b, e = Put(b, width, n); e != api.OK {
				t.Fatalf("Put(.., %d, %d) = %d", width, n, e)
			}
		}
	}
	for _, p := range places {
		if n, e := Get(b, p.at, p.width); n != p.n || e != api.OK {
			t.Errorf("Get(.., %d, %d) = %d, %d, want %d", p.at, p.width, n, e, p.n)
		}
	}
}

// P2.5: runs laid down one after the other are read one after the other.
func TestRunsReturn(t *testing.T) {
	b := noise(13)
	at := len(b)
	sizes := []int{0, 1, 0, 0, 2, 255, 256, 3, 65535, 4, 65534, 0}
	for _, size := range sizes {
		var e api.Errno
		if b, e = PutRun(b, noise(size)); e != api.OK {
			t.Fatalf("a run of %d bytes: %d", size, e)
		}
	}
	if !bytes.Equal(b[:13], noise(13)) {
		t.Error("the bytes before the runs are others")
	}
	for _, size := range sizes {
		x, to, e := GetRun(b, at)
		if !bytes.Equal(x, noise(size)) || to != at+2+size || e != api.OK {
			t.Fatalf("a run of %d bytes at %d: %d bytes, %d, %d", size, at, len(x), to, e)
		}
		at = to
	}
	if at != len(b) {
		t.Errorf("the last run ends at %d of %d", at, len(b))
	}
	if x, to, e := GetRun(b, at); len(x) != 0 || to != 0 || e != api.ErrShort {
		t.Errorf("behind the last run: %v, %d, %d", x, to, e)
	}
}

// P2.5: Bytes of Words are the bytes and at most three bytes 255.
func TestBytesReturn(t *testing.T) {
	for size := range 70 {
		b := noise(size)
		got := Bytes(Words(b))
		if len(got) < size || len(got) > size+3 || len(got)%4 != 0 {
			t.Fatalf("%d bytes became %d", size, len(got))
		}
		if !bytes.Equal(got[:size], b) || !bytes.Equal(got[size:], bytes.Repeat([]byte{255}, len(got)-size)) {
			t.Errorf("%v became %v", b, got)
		}
	}
}

// P2.5: Words of Bytes are the words.
func TestWordsReturn(t *testing.T) {
	words := []uint32{0, 1, 255, 256, 1<<31 - 1, 1 << 31, math.MaxUint32}
	for _, n := range sequence(500) {
		words = append(words, uint32(n))
	}
	for size := range len(words) {
		if got := Words(Bytes(words[:size])); !slices.Equal(got, words[:size]) {
			t.Errorf("%x became %x", words[:size], got)
		}
	}
}

// R4: what is passed stays as it is, its spare capacity included, and no result shares memory with it.
func TestNothingShared(t *testing.T) {
	for _, size := range []int{0, 1, 4, 9} {
		b, x := noise(size), []byte("abc")
		in, run := roomy(b), roomy(x)
		first, _ := Put(in, 3, 0x010203)
		second, _ := PutRun(in, run)
		spoil(first)
		spoil(second)
		held, _ := PutRun(b, x)
		whole := roomy(held)
		got, _, _ := GetRun(whole, size)
		spoil(got)
		words := Words(in)
		clear(words[:cap(words)])
		if !untouched(in, b) || !untouched(run, x) || !untouched(whole, held) {
			t.Errorf("an argument behind %d bytes was changed", size)
		}
	}
	words := []uint32{1, 2, 3, 4}
	spoil(Bytes(words[:2]))
	if !slices.Equal(words, []uint32{1, 2, 3, 4}) {
		t.Errorf("words were changed: %v", words)
	}
}

// R4: two results that continue the same bytes are independent of each other.
func TestResultsAreIndependent(t *testing.T) {
	base, _ := Put(nil, 1, 1)
	one, _ := Put(base, 2, 0x0202)
	two, _ := Put(base, 2, 0x0303)
	three, _ := PutRun(base, []byte{4})
	if !bytes.Equal(one, []byte{1, 2, 2}) || !bytes.Equal(two, []byte{1, 3, 3}) || !bytes.Equal(three, []byte{1, 1, 0, 4}) {
		t.Error(one, two, three)
	}
}

// R2, R4: a call that returns an error leaves its arguments as they were.
func TestErrorsChangeNothing(t *testing.T) {
	b := noise(5)
	in := roomy(b)
	Put(in, 0, 1)
	Put(in, 1, 256)
	PutRun(in, make([]byte, 65536))
	Get(in, 4, 2)
	GetRun(in, 4)
	if !untouched(in, b) {
		t.Error("an argument was changed")
	}
}
