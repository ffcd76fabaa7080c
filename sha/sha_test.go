package sha

import (
	"bytes"
	"crypto/sha256"
	"encoding"
	"encoding/binary"
	"encoding/hex"
	"math"
	"math/big"
	"strings"
	"testing"

	"midstream/api"
)

// noise is a fixed byte string of a length, other ones for other seeds.
func noise(size int, seed uint32) []byte {
	out := make([]byte, size)
	x := 2463534242 + seed
	for i := range out {
		x ^= x << 13
		x ^= x >> 17
		x ^= x << 5
		out[i] = byte(x >> 24)
	}
	return out
}

// samples are messages of many lengths and contents, all lengths about the end of one to four blocks among them.
func samples() [][]byte {
	out := [][]byte{nil, {}, []byte("abc")}
	for size := 1; size <= 260; size++ {
		out = append(out, noise(size, uint32(size)), make([]byte, size), bytes.Repeat([]byte{0xff}, size))
	}
	return append(out, noise(1000, 1), noise(4096, 2), noise(8191, 3), noise(1<<16, 4))
}

// states are beginnings of Step, ones that no message leads to among them.
func states() [][8]uint32 {
	out := [][8]uint32{First(), {}, {1}, {7: 1}, {0x80000000, 0x80000000, 0x80000000, 0x80000000, 0x80000000, 0x80000000, 0x80000000, 0x80000000}}
	all := [8]uint32{}
	for i := range all {
		all[i] = math.MaxUint32
	}
	out = append(out, all)
	for seed := range uint32(20) {
		s, b := [8]uint32{}, noise(32, seed+100)
		for i := range s {
			s[i] = binary.BigEndian.Uint32(b[4*i:])
		}
		out = append(out, s)
	}
	return out
}

// libraryStep is the state after a block by Go's library, which hands its state in and out as bytes: four bytes of a mark, the state, a block's bytes that wait, their count.
func libraryStep(t *testing.T, s [8]uint32, block []byte) [8]uint32 {
	t.Helper()
	h := sha256.New()
	b, err := h.(encoding.BinaryMarshaler).MarshalBinary()
	if err != nil {
		t.Fatal(err)
	}
	for i, n := range s {
		binary.BigEndian.PutUint32(b[4+4*i:], n)
	}
	if err := h.(encoding.BinaryUnmarshaler).UnmarshalBinary(b); err != nil {
		t.Fatal(err)
	}
	h.Write(block)
	if b, err = h.(encoding.BinaryMarshaler).MarshalBinary(); err != nil {
		t.Fatal(err)
	}
	for i := range s {
		s[i] = binary.BigEndian.Uint32(b[4+4*i:])
	}
	return s
}

// roomy is a copy of b within greater memory, which holds marks behind b.
func roomy(b []byte) []byte {
	whole := bytes.Repeat([]byte{0xa5}, len(b)+160)
	copy(whole, b)
	return whole[:len(b)]
}

// untouched is whether a slice of roomy is still b, its marks included.
func untouched(got, b []byte) bool {
	whole := got[:cap(got)]
	return bytes.Equal(whole[:len(b)], b) && bytes.Equal(whole[len(b):], bytes.Repeat([]byte{0xa5}, len(whole)-len(b)))
}

// spoil writes over a result, its spare capacity included.
func spoil(b []byte) {
	b = b[:cap(b)]
	for i := range b {
		b[i] ^= 0xff
	}
}

// primes are the first ones.
func primes(count int) []int64 {
	var out []int64
	for n := int64(2); len(out) < count; n++ {
		if big.NewInt(n).ProbablyPrime(0) {
			out = append(out, n)
		}
	}
	return out
}

// cubeRoot is the greatest number whose cube is at most n.
func cubeRoot(n *big.Int) *big.Int {
	x := new(big.Int)
	for bit := n.BitLen()/3 + 1; bit >= 0; bit-- {
		next := new(big.Int).SetBit(x, bit, 1)
		if new(big.Int).Exp(next, big.NewInt(3), nil).Cmp(n) <= 0 {
			x = next
		}
	}
	return x
}

// P4.1: the words of First are the square roots' first bits behind the point.
func TestFirst(t *testing.T) {
	s := First()
	for i, p := range primes(8) {
		n := new(big.Int).Lsh(big.NewInt(p), 64)
		if want := uint32(n.Sqrt(n).Uint64()); s[i] != want {
			t.Errorf("word %d of First = %#x, want %#x", i, s[i], want)
		}
	}
	if s[0] != 0x6a09e667 {
		t.Errorf("for 2: %#x", s[0])
	}
}

// P4.1: the words K(0) to K(63) are the cube roots' first bits behind the point.
func TestConstants(t *testing.T) {
	for i, p := range primes(64) {
		root := cubeRoot(new(big.Int).Lsh(big.NewInt(p), 96))
		if want := uint32(root.Uint64()); constants[i] != want {
			t.Errorf("K(%d) = %#x, want %#x", i, constants[i], want)
		}
	}
	if constants[0] != 0x428a2f98 || constants[63] != 0xc67178f2 {
		t.Errorf("for 2 and 311: %#x, %#x", constants[0], constants[63])
	}
}

// P4.1: a known state: the one after the only block of "abc" is its digest.
func TestStepCase(t *testing.T) {
	block := make([]byte, 64)
	copy(block, "abc\x80")
	block[63] = 24
	want := [8]uint32{0xba7816bf, 0x8f01cfea, 0x414140de, 0x5dae2223, 0xb00361a3, 0x96177a9c, 0xb410ff61, 0xf20015ad}
	if got, e := Step(First(), block); got != want || e != api.OK {
		t.Errorf("Step = %#x, %d, want %#x", got, e, want)
	}
}

// P4.1: any state to begin with and any block, against Go's library.
func TestStepAgainstTheLibrary(t *testing.T) {
	blocks := [][]byte{make([]byte, 64), bytes.Repeat([]byte{0xff}, 64)}
	for i := range 64 {
		block := make([]byte, 64)
		block[i] = 0x81
		blocks = append(blocks, block, noise(64, uint32(i)))
	}
	for _, s := range states() {
		for _, block := range blocks {
			want := libraryStep(t, s, block)
			if got, e := Step(s, block); got != want || e != api.OK {
				t.Errorf("Step(%#x, %x) = %#x, %d, want %#x", s, block, got, e, want)
			}
		}
	}
}

// P4.1: a block that has not exactly 64 bytes is refused, and there is no state beside the error.
func TestStepRefuses(t *testing.T) {
	for _, s := range states() {
		for size := range 200 {
			if size == 64 {
				continue
			}
			if got, e := Step(s, noise(size, 1)); got != [8]uint32{} || e != api.ErrArg {
				t.Errorf("Step with %d bytes = %#x, %d", size, got, e)
			}
		}
		if got, e := Step(s, nil); got != [8]uint32{} || e != api.ErrArg {
			t.Errorf("Step with nil = %#x, %d", got, e)
		}
		if got, e := Step(s, noise(65, 1)[:63]); got != [8]uint32{} || e != api.ErrArg {
			t.Errorf("Step with 63 bytes and a capacity of 65 = %#x, %d", got, e)
		}
	}
}

// P4.2: known lengths of paddings.
func TestPadSizes(t *testing.T) {
	for _, c := range []struct{ n, want int }{
		{0, 64}, {1, 63}, {54, 10}, {55, 9}, {56, 72}, {57, 71}, {62, 66}, {63, 65}, {64, 64}, {65, 63},
		{118, 10}, {119, 9}, {120, 72}, {127, 65}, {128, 64}, {1 << 60, 64}, {1<<60 - 1, 65}, {1<<60 - 8, 72}, {1<<60 - 9, 9},
	} {
		if got, e := Pad(c.n); len(got) != c.want || e != api.OK {
			t.Errorf("Pad(%d) has %d bytes, %d, want %d", c.n, len(got), e, c.want)
		}
	}
}

// checkPad holds a padding against the three parts of P4.2.
func checkPad(t *testing.T, n int) {
	t.Helper()
	got, e := Pad(n)
	if e != api.OK || len(got) < 9 {
		t.Errorf("Pad(%d) = %x, %d", n, got, e)
		return
	}
	zeros := got[1 : len(got)-8]
	if got[0] != 0x80 || !bytes.Equal(zeros, make([]byte, len(zeros))) {
		t.Errorf("Pad(%d) begins with %x", n, got[:len(got)-8])
	}
	if len(zeros) > 63 || (uint64(n)+1+uint64(len(zeros)))%64 != 56 {
		t.Errorf("Pad(%d) has %d zeros", n, len(zeros))
	}
	if length := binary.BigEndian.Uint64(got[len(got)-8:]); length != 8*uint64(n) {
		t.Errorf("Pad(%d) ends with %#x", n, length)
	}
}

// P4.2: the byte 0x80, as few zeros as can be, and 8 n, the most significant byte first.
func TestPadParts(t *testing.T) {
	for n := range 1000 {
		checkPad(t, n)
	}
	for shift := range 60 {
		for d := -70; d <= 70; d++ {
			if n := 1<<shift + d; n >= 0 {
				checkPad(t, n)
			}
		}
	}
	for d := range 200 {
		checkPad(t, 1<<60-d)
	}
	if got, e := Pad(1 << 60); e != api.OK || got[56] != 0x80 || !bytes.Equal(got[57:], make([]byte, 7)) {
		t.Errorf("Pad(2^60) = %x, %d", got, e)
	}
	checkPad(t, 0x0123456789abcde)
}

// P4.2: n below 0 and above 2^60 is refused, and there is no padding beside the error.
func TestPadRefuses(t *testing.T) {
	for _, n := range []int{-1, -2, -8, -9, -64, -1 << 32, -1 << 60, -1 << 62, math.MinInt, math.MinInt + 1, 1<<60 + 1, 1<<60 + 64, 1 << 61, 1 << 62, math.MaxInt - 1, math.MaxInt} {
		if got, e := Pad(n); len(got) != 0 || e != api.ErrArg {
			t.Errorf("Pad(%d) = %x, %d", n, got, e)
		}
	}
}

// P4.3: known digests, the one of no bytes among them.
func TestSumCases(t *testing.T) {
	for _, c := range []struct{ text, want string }{
		{"", "e3b0c44298fc1c149afbf4c8996fb92427ae41e4649b934ca495991b7852b855"},
		{"abc", "ba7816bf8f01cfea414140de5dae2223b00361a396177a9cb410ff61f20015ad"},
		{"abcdbcdecdefdefgefghfghighijhijkijkljklmklmnlmnomnopnopq", "248d6a61d20638b8e5c026930c3e6039a33ce45964ff2167f6ecedd419db06c1"},
		{"abcdefghbcdefghicdefghijdefghijkefghijklfghijklmghijklmnhijklmnoijklmnopjklmnopqklmnopqrlmnopqrsmnopqrstnopqrstu", "cf5b16a778af8380036ce59e7b0492370b249b11e8f07a51afac45037afee9d1"},
		{strings.Repeat("a", 1000000), "cdc76e5c9914fb9281a1c7e284d73e67f1809a48a497200e046d39ccc7112cd0"},
	} {
		d := Sum([]byte(c.text))
		if got := hex.EncodeToString(d[:]); got != c.want {
			t.Errorf("Sum of %d bytes = %s, want %s", len(c.text), got, c.want)
		}
	}
	if Sum(nil) != Sum([]byte{}) {
		t.Error("Sum tells nil and no bytes apart")
	}
}

// P4.3: the same as the digest of Go's library, at every length about the end of a block.
func TestSumAgainstTheLibrary(t *testing.T) {
	for _, b := range samples() {
		if got, want := Sum(b), sha256.Sum256(b); got != want {
			t.Errorf("Sum of %d bytes %.20x = %x, want %x", len(b), b, got, want)
		}
	}
}

// P4.4: digits with lower-case letters, the higher digit of each byte first.
func TestHexCases(t *testing.T) {
	for _, c := range []struct {
		d    [32]byte
		want string
	}{
		{[32]byte{}, strings.Repeat("0", 64)},
		{[32]byte{0x12, 0xef}, "12ef" + strings.Repeat("0", 60)},
		{[32]byte{31: 0xa0}, strings.Repeat("0", 62) + "a0"},
		{[32]byte{0: 0x0a, 31: 0x0f}, "0a" + strings.Repeat("0", 60) + "0f"},
		{[32]byte([]byte("\x00\x11\x22\x33\x44\x55\x66\x77\x88\x99\xaa\xbb\xcc\xdd\xee\xff\x01\x23\x45\x67\x89\xab\xcd\xef\xfe\xdc\xba\x98\x76\x54\x32\x10")), "00112233445566778899aabbccddeeff0123456789abcdeffedcba9876543210"},
	} {
		if got := Hex(c.d); got != c.want {
			t.Errorf("Hex(%x) = %q, want %q", c.d, got, c.want)
		}
		if got, e := Unhex(c.want); got != c.d || e != api.OK {
			t.Errorf("Unhex(%q) = %x, %d, want %x", c.want, got, e, c.d)
		}
	}
}

// P4.4 and P4.5: every byte in every place, there and back, against Go's library.
func TestHexThereAndBack(t *testing.T) {
	for at := range 32 {
		for n := range 256 {
			d := [32]byte(noise(32, uint32(n)))
			d[at] = byte(n)
			s := Hex(d)
			if s != hex.EncodeToString(d[:]) {
				t.Errorf("Hex(%x) = %q", d, s)
			}
			if got, e := Unhex(s); got != d || e != api.OK {
				t.Errorf("Unhex(%q) = %x, %d", s, got, e)
			}
		}
	}
}

// P4.4: a text that has not exactly 64 bytes is refused, even if all of them are digits.
func TestUnhexRefusesLengths(t *testing.T) {
	for size := range 200 {
		if size == 64 {
			continue
		}
		if got, e := Unhex(strings.Repeat("7", size)); got != [32]byte{} || e != api.ErrForm {
			t.Errorf("Unhex of %d digits = %x, %d", size, got, e)
		}
	}
}

// P4.4: any other byte in any place is refused, upper-case letters among them, and there is no digest beside the error.
func TestUnhexRefusesBytes(t *testing.T) {
	h := Hex(Sum(nil))
	for at := range 64 {
		for n := range 256 {
			s := h[:at] + string([]byte{byte(n)}) + h[at+1:]
			got, e := Unhex(s)
			if strings.ContainsRune("0123456789abcdef", rune(n)) {
				if Hex(got) != s || e != api.OK {
					t.Errorf("Unhex(%q) = %x, %d", s, got, e)
				}
				continue
			}
			if got != [32]byte{} || e != api.ErrForm {
				t.Errorf("Unhex(%q) = %x, %d", s, got, e)
			}
		}
	}
}

// P4.4: texts that another reader might take for digits.
func TestUnhexRefusesTexts(t *testing.T) {
	h := Hex(Sum(nil))
	for _, s := range []string{
		"", " ", strings.ToUpper(h), h + "\n", h + "\x00", " " + h, "0x" + h, "0x" + h[2:], "+" + h[1:], "-" + h[1:], h[:31] + "_" + h[32:],
		h[:62] + "é", "é" + h[2:], h[:61] + "１", strings.Repeat("é", 32), strings.Repeat("é", 64), strings.Repeat("\xff", 64), h + h, h[:63],
	} {
		if got, e := Unhex(s); got != [32]byte{} || e != api.ErrForm {
			t.Errorf("Unhex(%q) = %x, %d", s, got, e)
		}
	}
}

// P4.5: a message and its padding are whole blocks, one or two more than the message alone has.
func TestPaddedMessagesAreBlocks(t *testing.T) {
	for n := range 2000 {
		pad, _ := Pad(n)
		whole := n + len(pad)
		if more := whole/64 - n/64; whole%64 != 0 || more < 1 || more > 2 {
			t.Errorf("%d bytes and a padding of %d", n, len(pad))
		}
	}
}

// P4.5: the state after several blocks is Step for one after the other, and the last one is Sum.
func TestSumIsStepAfterStep(t *testing.T) {
	for _, b := range samples() {
		pad, _ := Pad(len(b))
		s := First()
		for whole := append(bytes.Clone(b), pad...); len(whole) > 0; whole = whole[64:] {
			var e api.Errno
			if s, e = Step(s, whole[:64]); e != api.OK {
				t.Fatal(e)
			}
		}
		var want [32]byte
		for i, n := range s {
			binary.BigEndian.PutUint32(want[4*i:], n)
		}
		if got := Sum(b); got != want {
			t.Errorf("Sum of %d bytes = %x, want %x", len(b), got, want)
		}
	}
}

// R4: arguments stay as they were, their spare capacity included.
func TestArgumentsStay(t *testing.T) {
	for _, b := range samples() {
		arg := roomy(b)
		Sum(arg)
		if !untouched(arg, b) {
			t.Errorf("Sum changed its argument of %d bytes", len(b))
		}
		Step(First(), arg)
		if !untouched(arg, b) {
			t.Errorf("Step changed its argument of %d bytes", len(b))
		}
	}
	s := First()
	Step(s, make([]byte, 64))
	if s != First() {
		t.Error("Step changed its state")
	}
	d := Sum(nil)
	Hex(d)
	if d != Sum(nil) {
		t.Error("Hex changed its digest")
	}
}

// R4 and R5: results are new memory: what is done to one is not seen in the next.
func TestResultsAreNew(t *testing.T) {
	for n := range 130 {
		first, _ := Pad(n)
		want := bytes.Clone(first)
		spoil(first)
		if got, e := Pad(n); !bytes.Equal(got, want) || e != api.OK {
			t.Errorf("the second Pad(%d) = %x, %d", n, got, e)
		}
	}
	s := First()
	s[0]++
	if First() == s {
		t.Error("First hands out what it keeps")
	}
	if Sum([]byte("abc")) != Sum([]byte("abc")) {
		t.Error("the second Sum is another one")
	}
}
