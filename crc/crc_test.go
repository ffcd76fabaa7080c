package crc

import (
	"bytes"
	"hash/crc32"
	"testing"

	"midstream/api"
)

// noise is a fixed byte string of a length, other ones for other seeds.
func noise(size int, seed uint32) []byte {
	out := make([]byte, size)
	x := 2463534242 + seed
	for i := range out {
		x ^= x << 13
		x ^= x >> 17
		x ^= x << 5
		out[i] = byte(x >> 24)
	}
	return out
}

// samples are byte strings of many lengths and contents.
func samples() [][]byte {
	out := [][]byte{nil, {}, {0}, {1}, {0x80}, {0xff}, {0, 0, 0, 0}, {0xff, 0xff, 0xff, 0xff}, []byte("123456789")}
	for size := 1; size <= 70; size++ {
		out = append(out, noise(size, uint32(size)), make([]byte, size), bytes.Repeat([]byte{0xff}, size))
	}
	return append(out, noise(255, 1), noise(256, 2), noise(257, 3), noise(2048, 4))
}

// registers are initial sums, those with all and with no bits among them.
var registers = []uint32{0, 1, 2, 0x80000000, 0x7fffffff, 0xffffffff, 0xfffffffe, 0xedb88320, 0x12345678, 0xcbf43926}

// roomy is a copy of b within greater memory, which holds marks behind b.
func roomy(b []byte) []byte {
	whole := bytes.Repeat([]byte{0xa5}, len(b)+32)
	copy(whole, b)
	return whole[:len(b)]
}

// untouched is whether a slice of roomy is still b, its marks included.
func untouched(got, b []byte) bool {
	whole := got[:cap(got)]
	return bytes.Equal(whole[:len(b)], b) && bytes.Equal(whole[len(b):], bytes.Repeat([]byte{0xa5}, len(whole)-len(b)))
}

// spoil writes over a result, its spare capacity included.
func spoil(b []byte) {
	b = b[:cap(b)]
	for i := range b {
		b[i] ^= 0xff
	}
}

// flipped is a copy of b in which bit k (the lowest bit of each byte first) is inverted for each bit of pattern, from bit at on.
func flipped(b []byte, at int, pattern uint32) []byte {
	out := bytes.Clone(b)
	for k := range 32 {
		if pattern>>k&1 == 1 {
			out[(at+k)/8] ^= 1 << ((at + k) % 8)
		}
	}
	return out
}

// P3.1: known checksums, the one of no bytes among them.
func TestSumCases(t *testing.T) {
	for _, c := range []struct {
		text string
		want uint32
	}{
		{"", 0},
		{"123456789", 0xcbf43926},
		{"a", 0xe8b7be43},
		{"\x00", 0xd202ef8d},
		{"\xff", 0xff000000},
		{"\x00\x00\x00\x00", 0x2144df1c},
		{"\xff\xff\xff\xff", 0xffffffff},
		{"The quick brown fox jumps over the lazy dog", 0x414fa339},
	} {
		if got := Sum([]byte(c.text)); got != c.want {
			t.Errorf("Sum(%q) = %#x, want %#x", c.text, got, c.want)
		}
	}
	if got := Sum(nil); got != 0 {
		t.Errorf("Sum(nil) = %#x", got)
	}
}

// P3.1: the same as the checksum of Go's library, from any initial register.
func TestAgainstTheLibrary(t *testing.T) {
	for _, b := range samples() {
		if got, want := Sum(b), crc32.ChecksumIEEE(b); got != want {
			t.Errorf("Sum(%x) = %#x, want %#x", b, got, want)
		}
		for _, sum := range registers {
			if got, want := On(sum, b), crc32.Update(sum, crc32.IEEETable, b); got != want {
				t.Errorf("On(%#x, %x) = %#x, want %#x", sum, b, got, want)
			}
		}
	}
}

// P3.1: the initial register is sum inverted: no bytes leave the sum as it is, and a sum of 0 is the beginning.
func TestOnEdges(t *testing.T) {
	for _, sum := range registers {
		if got := On(sum, nil); got != sum {
			t.Errorf("On(%#x, nil) = %#x", sum, got)
		}
		if got := On(sum, []byte{}); got != sum {
			t.Errorf("On(%#x, []) = %#x", sum, got)
		}
	}
	for _, b := range samples() {
		if On(0, b) != Sum(b) {
			t.Errorf("On(0, %x) is not Sum", b)
		}
	}
	if got := On(0xffffffff, []byte{0}); got != 0xffffffff {
		t.Errorf("a register of zeros and a byte of zeros: %#x", got)
	}
}

// P3.2: the bytes, then the checksum, its least significant byte first.
func TestSealCases(t *testing.T) {
	for _, c := range []struct{ text, want string }{
		{"", "\x00\x00\x00\x00"},
		{"123456789", "123456789\x26\x39\xf4\xcb"},
		{"a", "a\x43\xbe\xb7\xe8"},
		{"\xff", "\xff\x00\x00\x00\xff"},
	} {
		if got := Seal([]byte(c.text)); string(got) != c.want {
			t.Errorf("Seal(%q) = %q, want %q", c.text, got, c.want)
		}
	}
	if got := Seal(nil); !bytes.Equal(got, make([]byte, 4)) {
		t.Errorf("Seal(nil) = %x", got)
	}
}

// P3.2: what Open returns, and that it returns no bytes beside an error.
func TestOpenCases(t *testing.T) {
	for _, c := range []struct {
		text, want string
		e          api.Errno
	}{
		{"", "", api.ErrShort},
		{"\x00", "", api.ErrShort},
		{"\x00\x00", "", api.ErrShort},
		{"\x00\x00\x00", "", api.ErrShort},
		{"abc", "", api.ErrShort},
		{"\xff\xff\xff", "", api.ErrShort},
		{"\x00\x00\x00\x00", "", api.OK},
		{"\x01\x00\x00\x00", "", api.ErrSum},
		{"\x00\x00\x00\x80", "", api.ErrSum},
		{"\xff\xff\xff\xff", "", api.ErrSum},
		{"\x00\x00\x00\x00\x00", "", api.ErrSum},
		{"a\x43\xbe\xb7\xe8", "a", api.OK},
		{"a\xe8\xb7\xbe\x43", "", api.ErrSum},
		{"123456789\x26\x39\xf4\xcb", "123456789", api.OK},
		{"123456789\xcb\xf4\x39\x26", "", api.ErrSum},
		{"123456789\xd9\xc6\x0b\x34", "", api.ErrSum},
		{"123456789\x26\x39\xf4\xcb\x00", "", api.ErrSum},
		{"123456789\x26\x39\xf4", "", api.ErrSum},
		{"123456788\x26\x39\xf4\xcb", "", api.ErrSum},
	} {
		if got, e := Open([]byte(c.text)); string(got) != c.want || e != c.e {
			t.Errorf("Open(%q) = %q, %d, want %q, %d", c.text, got, e, c.want, c.e)
		}
	}
	if got, e := Open(nil); len(got) != 0 || e != api.ErrShort {
		t.Errorf("Open(nil) = %x, %d", got, e)
	}
}

// P3.2: for any bytes, Open agrees with the checksum of Go's library.
func TestOpenAgainstTheLibrary(t *testing.T) {
	for _, b := range samples() {
		sum := crc32.ChecksumIEEE(b)
		for _, d := range []uint32{0, 1, 0x100, 0x10000, 0x1000000, 0x80000000, 0xffffffff} {
			n := sum ^ d
			sealed := append(bytes.Clone(b), byte(n), byte(n>>8), byte(n>>16), byte(n>>24))
			got, e := Open(sealed)
			if d == 0 && (!bytes.Equal(got, b) || e != api.OK) {
				t.Errorf("Open(%x) = %x, %d", sealed, got, e)
			}
			if d != 0 && (len(got) != 0 || e != api.ErrSum) {
				t.Errorf("Open(%x) = %x, %d, want ErrSum", sealed, got, e)
			}
		}
	}
}

// P3.3: a sum goes on from piece to piece, wherever the bytes are cut.
func TestOnFromPieceToPiece(t *testing.T) {
	b := noise(61, 7)
	for i := range len(b) + 1 {
		if got := On(Sum(b[:i]), b[i:]); got != Sum(b) {
			t.Errorf("cut at %d: %#x, want %#x", i, got, Sum(b))
		}
		for j := i; j <= len(b); j++ {
			if got := On(On(Sum(b[:i]), b[i:j]), b[j:]); got != Sum(b) {
				t.Errorf("cut at %d and %d: %#x, want %#x", i, j, got, Sum(b))
			}
		}
	}
	sum := uint32(0)
	for i := range b {
		sum = On(sum, b[i:i+1])
	}
	if sum != Sum(b) {
		t.Errorf("byte by byte: %#x, want %#x", sum, Sum(b))
	}
}

// P3.3: Open of the result of Seal returns the bytes, also when they are sealed twice.
func TestOpenOfSeal(t *testing.T) {
	for _, b := range samples() {
		sealed := Seal(b)
		if got, e := Open(sealed); !bytes.Equal(got, b) || e != api.OK {
			t.Errorf("Open(Seal(%x)) = %x, %d", b, got, e)
		}
		if got, e := Open(Seal(sealed)); !bytes.Equal(got, sealed) || e != api.OK {
			t.Errorf("Open(Seal(Seal(%x))) = %x, %d", b, got, e)
		}
	}
}

// P3.3: inverted bits within 32 consecutive ones are always found, across the border of bytes and checksum too.
func TestInvertedBitsAreFound(t *testing.T) {
	patterns := []uint32{1, 3, 5, 0x80000001, 0xffffffff, 0xedb88320, 0xdb710641, 0x82608edb, 0xf0f0f0f0, 0x55555555}
	for k := range 32 {
		patterns = append(patterns, 1<<k, 1|1<<k, 1<<k-1)
	}
	for _, size := range []int{0, 1, 2, 3, 4, 5, 17} {
		sealed := Seal(noise(size, 11))
		for at := range len(sealed)*8 - 31 {
			for _, pattern := range patterns {
				if pattern == 0 {
					continue
				}
				if got, e := Open(flipped(sealed, at, pattern)); len(got) != 0 || e != api.ErrSum {
					t.Errorf("size %d, bits %#x from %d on: %x, %d", size, pattern, at, got, e)
				}
			}
		}
	}
}

// P3.3: the checksum of the exclusive or of three byte strings is the exclusive or of their checksums (of two it is not).
func TestExclusiveOrOfThree(t *testing.T) {
	for size := range 80 {
		a, b, c := noise(size, 1), noise(size, 2), noise(size, 3)
		x := make([]byte, size)
		for i := range x {
			x[i] = a[i] ^ b[i] ^ c[i]
		}
		if got, want := Sum(x), Sum(a)^Sum(b)^Sum(c); got != want {
			t.Errorf("size %d: %#x, want %#x", size, got, want)
		}
	}
}

// R4: arguments stay as they were, their spare capacity included, and no result shares memory with them.
func TestArgumentsStay(t *testing.T) {
	for _, b := range samples() {
		arg := roomy(b)
		Sum(arg)
		On(0x12345678, arg)
		spoil(Seal(arg))
		if !untouched(arg, b) {
			t.Errorf("the argument %x was changed", b)
		}
		sealed := Seal(b)
		arg = roomy(sealed)
		got, _ := Open(arg)
		spoil(got)
		if !untouched(arg, sealed) {
			t.Errorf("Open changed or shares %x", sealed)
		}
		wrong := flipped(sealed, 0, 1)
		arg = roomy(wrong)
		Open(arg)
		if !untouched(arg, wrong) {
			t.Errorf("Open changed %x", wrong)
		}
	}
}

// R4: results are not kept: what is done to one is not seen in the next.
func TestResultsAreNew(t *testing.T) {
	b := []byte("123456789")
	spoil(Seal(b))
	if got := Seal(b); string(got) != "123456789\x26\x39\xf4\xcb" {
		t.Errorf("the second Seal = %q", got)
	}
	sealed := Seal(b)
	first, _ := Open(sealed)
	spoil(first)
	if got, e := Open(sealed); !bytes.Equal(got, b) || e != api.OK {
		t.Errorf("the second Open = %q, %d", got, e)
	}
}
