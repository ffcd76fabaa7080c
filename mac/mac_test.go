package mac

import (
	"bytes"
	"crypto/hmac"
	"crypto/sha256"
	"encoding/hex"
	"strings"
	"testing"

	"midstream/api"
)

// noise is a fixed byte string of a length, other ones for other seeds.
func noise(size int, seed uint32) []byte {
	out := make([]byte, size)
	x := 2463534242 + seed
	for i := range out {
		x ^= x << 13
		x ^= x >> 17
		x ^= x << 5
		out[i] = byte(x >> 24)
	}
	return out
}

// keys are of no bytes, of every length about the one of a block, and of many more; ones that end with bytes 0 are among them.
func keys() [][]byte {
	out := [][]byte{nil, {}, {0}, []byte("key"), make([]byte, 64), make([]byte, 65)}
	for _, size := range []int{1, 2, 20, 31, 32, 33, 62, 63, 64, 65, 66, 127, 128, 129, 1000, 5000} {
		ends := noise(size, 9)
		ends[size-1] = 0
		out = append(out, noise(size, uint32(size)), bytes.Repeat([]byte{0xff}, size), ends)
	}
	return out
}

// messages are byte strings of many lengths, those about the end of one and two blocks among them.
func messages() [][]byte {
	out := [][]byte{nil, {}, {0}, []byte("The quick brown fox jumps over the lazy dog")}
	for _, size := range []int{1, 31, 32, 33, 54, 55, 56, 57, 63, 64, 65, 118, 119, 120, 127, 128, 129, 2048} {
		out = append(out, noise(size, uint32(size)), make([]byte, size))
	}
	return out
}

// libraryTag is the tag by Go's library.
func libraryTag(key, b []byte) [32]byte {
	h := hmac.New(sha256.New, key)
	h.Write(b)
	return [32]byte(h.Sum(nil))
}

// roomy is a copy of b within greater memory, which holds marks behind b.
func roomy(b []byte) []byte {
	whole := bytes.Repeat([]byte{0xa5}, len(b)+160)
	copy(whole, b)
	return whole[:len(b)]
}

// untouched is whether a slice of roomy is still b, its marks included.
func untouched(got, b []byte) bool {
	whole := got[:cap(got)]
	return bytes.Equal(whole[:len(b)], b) && bytes.Equal(whole[len(b):], bytes.Repeat([]byte{0xa5}, len(whole)-len(b)))
}

// spoil writes over a result, its spare capacity included.
func spoil(b []byte) {
	b = b[:cap(b)]
	for i := range b {
		b[i] ^= 0xff
	}
}

// flipped is a copy of b in which one bit is inverted.
func flipped(b []byte, bit int) []byte {
	out := bytes.Clone(b)
	out[bit/8] ^= 1 << (bit % 8)
	return out
}

// refuses expects that Open returns an error and no bytes beside it.
func refuses(t *testing.T, key, b []byte, want api.Errno) {
	t.Helper()
	if got, e := Open(key, b); len(got) != 0 || e != want {
		t.Errorf("Open of %d bytes %.40x under %.20x = %x, %d, want %d", len(b), b, key, got, e, want)
	}
}

// P5.1: a key of at most 64 bytes stands at the beginning of its block, and bytes 0 behind it.
func TestBlockOfShortKeys(t *testing.T) {
	for size := range 65 {
		key := noise(size, 3)
		got := Block(key)
		if !bytes.Equal(got[:size], key) || !bytes.Equal(got[size:], make([]byte, 64-size)) {
			t.Errorf("Block of %d bytes = %x", size, got)
		}
	}
	if Block(nil) != [64]byte{} || Block([]byte{}) != [64]byte{} {
		t.Error("the block of no bytes")
	}
	if Block([]byte("ab")) != [64]byte{'a', 'b'} {
		t.Error("the block of two bytes")
	}
}

// P5.1: the block of a key of more than 64 bytes is its digest, and bytes 0 behind it.
func TestBlockOfLongKeys(t *testing.T) {
	for _, size := range []int{65, 66, 96, 127, 128, 129, 1000, 5000} {
		for _, key := range [][]byte{noise(size, 4), make([]byte, size)} {
			digest := sha256.Sum256(key)
			got := Block(key)
			if !bytes.Equal(got[:32], digest[:]) || !bytes.Equal(got[32:], make([]byte, 32)) {
				t.Errorf("Block of %d bytes = %x", size, got)
			}
		}
	}
}

// P5.1: known tags: the chapter's example, no bytes at all, and the test cases of RFC 4231.
func TestTagCases(t *testing.T) {
	for _, c := range []struct{ key, text, want string }{
		{"key", "The quick brown fox jumps over the lazy dog", "f7bc83f430538424b13298e6aa6fb143ef4d59a14946175997479dbc2d1a3cd8"},
		{"", "", "b613679a0814d9ec772f95d778c35fc5ff1697c493715653c6c712144292c5ad"},
		{strings.Repeat("\x0b", 20), "Hi There", "b0344c61d8db38535ca8afceaf0bf12b881dc200c9833da726e9376c2e32cff7"},
		{"Jefe", "what do ya want for nothing?", "5bdcc146bf60754e6a042426089575c75a003f089d2739839dec58b964ec3843"},
		{strings.Repeat("\xaa", 20), strings.Repeat("\xdd", 50), "773ea91e36800e46854db8ebd09181a72959098b3ef8c122d9635514ced565fe"},
		{strings.Repeat("\xaa", 131), "Test Using Larger Than Block-Size Key - Hash Key First", "60e431591ee0b67f0d8a26aacbf5b77f8e0bc6213728c5140546040f0ee37f54"},
	} {
		got := Tag([]byte(c.key), []byte(c.text))
		if hex.EncodeToString(got[:]) != c.want {
			t.Errorf("Tag(%q, %q) = %x, want %s", c.key, c.text, got, c.want)
		}
	}
	if Tag(nil, nil) != Tag([]byte{}, []byte{}) {
		t.Error("Tag tells nil and no bytes apart")
	}
}

// P5.1: the digest of the two masked blocks and the bytes, put together by hand with the digest of Go's library.
func TestTagByHand(t *testing.T) {
	for _, key := range keys() {
		block := Block(key)
		var inner, outer []byte
		for _, n := range block {
			inner, outer = append(inner, n^0x36), append(outer, n^0x5c)
		}
		for _, b := range messages() {
			digest := sha256.Sum256(append(bytes.Clone(inner), b...))
			want := sha256.Sum256(append(bytes.Clone(outer), digest[:]...))
			if got := Tag(key, b); got != want {
				t.Errorf("Tag of %d bytes under %d = %x, want %x", len(b), len(key), got, want)
			}
		}
	}
}

// P5.1: the same as the tag of Go's library, for keys and bytes of many lengths.
func TestTagAgainstTheLibrary(t *testing.T) {
	for _, key := range keys() {
		for _, b := range messages() {
			if got, want := Tag(key, b), libraryTag(key, b); got != want {
				t.Errorf("Tag of %d bytes under %d = %x, want %x", len(b), len(key), got, want)
			}
		}
	}
	for size := range 200 {
		key, b := noise(size, 5), noise(199-size, 6)
		if got, want := Tag(key, b), libraryTag(key, b); got != want {
			t.Errorf("Tag of %d bytes under %d = %x, want %x", len(b), len(key), got, want)
		}
	}
}

// P5.2: Right takes the tag of the bytes, and no other's.
func TestRight(t *testing.T) {
	for _, key := range keys() {
		for _, b := range messages() {
			tag := libraryTag(key, b)
			if !Right(key, b, tag[:]) {
				t.Errorf("the tag of %d bytes under %d is refused", len(b), len(key))
			}
			if Right(key, append(bytes.Clone(b), 0), tag[:]) {
				t.Errorf("a byte 0 behind %d bytes is not noticed", len(b))
			}
			if Right([]byte("another key"), b, tag[:]) {
				t.Errorf("the tag of %d bytes under %d is taken under another key", len(b), len(key))
			}
		}
	}
}

// P5.2: a tag that is wrong in one bit, whichever it is, or all of whose bits are wrong, is none.
func TestRightRefusesBits(t *testing.T) {
	key, b := []byte("key"), []byte("some bytes")
	tag := libraryTag(key, b)
	for bit := range 256 {
		if Right(key, b, flipped(tag[:], bit)) {
			t.Errorf("bit %d of the tag is not looked at", bit)
		}
	}
	spoil(tag[:])
	if Right(key, b, tag[:]) || Right(key, b, make([]byte, 32)) {
		t.Error("a wrong tag is taken")
	}
}

// P5.2: a tag of fewer or more than 32 bytes is none, even if it begins or ends with the tag, or its other bytes are 0.
func TestRightRefusesLengths(t *testing.T) {
	key, b := []byte("key"), []byte("some bytes")
	tag := libraryTag(key, b)
	for size := range 32 {
		if Right(key, b, tag[:size]) || Right(key, b, tag[32-size:]) {
			t.Errorf("%d bytes of the tag are taken", size)
		}
	}
	for more := 1; more <= 40; more++ {
		if Right(key, b, append(bytes.Clone(tag[:]), make([]byte, more)...)) || Right(key, b, append(make([]byte, more), tag[:]...)) {
			t.Errorf("a tag with %d bytes more is taken", more)
		}
	}
	if Right(key, b, nil) || Right(key, b, []byte{}) || Right(nil, nil, nil) {
		t.Error("no bytes are taken for a tag")
	}
}

// P5.2: a tag that ends with a byte 0 is not the one without it, although an array fills up with bytes 0.
func TestRightRefusesCutZeros(t *testing.T) {
	key := []byte("key")
	for n := range 1 << 16 {
		b := []byte{byte(n), byte(n >> 8)}
		tag := libraryTag(key, b)
		if tag[31] != 0 {
			continue
		}
		if !Right(key, b, tag[:]) || Right(key, b, tag[:31]) {
			t.Errorf("the tag %x", tag)
		}
		return
	}
	t.Error("no tag ends with a byte 0")
}

// P5.2: the bytes, then their tag.
func TestSeal(t *testing.T) {
	for _, key := range keys() {
		for _, b := range messages() {
			tag := libraryTag(key, b)
			if got := Seal(key, b); !bytes.Equal(got, append(bytes.Clone(b), tag[:]...)) {
				t.Errorf("Seal of %d bytes under %d = %x", len(b), len(key), got)
			}
		}
	}
}

// P5.2: fewer than 32 bytes are short under every key, whatever they are.
func TestOpenRefusesShort(t *testing.T) {
	for _, key := range keys() {
		tag := libraryTag(key, nil)
		for size := range 32 {
			refuses(t, key, tag[:size], api.ErrShort)
			refuses(t, key, make([]byte, size), api.ErrShort)
			refuses(t, key, tag[:][32-size:], api.ErrShort)
		}
		refuses(t, key, nil, api.ErrShort)
	}
}

// P5.2: of exactly 32 bytes, only the tag of no bytes is opened.
func TestOpenOfTagAlone(t *testing.T) {
	for _, key := range keys() {
		tag := libraryTag(key, nil)
		if got, e := Open(key, tag[:]); len(got) != 0 || e != api.OK {
			t.Errorf("Open of the tag of no bytes under %d = %x, %d", len(key), got, e)
		}
		refuses(t, key, make([]byte, 32), api.ErrTag)
		refuses(t, key, flipped(tag[:], 0), api.ErrTag)
		refuses(t, key, flipped(tag[:], 255), api.ErrTag)
	}
}

// P5.2: a tag before the bytes, bytes behind the tag, bytes cut off and the tag of another key are refused.
func TestOpenRefusesTags(t *testing.T) {
	key, b := []byte("key"), noise(40, 8)
	tag := libraryTag(key, b)
	sealed := append(bytes.Clone(b), tag[:]...)
	refuses(t, key, append(bytes.Clone(tag[:]), b...), api.ErrTag)
	refuses(t, key, append(bytes.Clone(sealed), 0), api.ErrTag)
	refuses(t, key, sealed[:len(sealed)-1], api.ErrTag)
	refuses(t, key, sealed[1:], api.ErrTag)
	refuses(t, []byte("kez"), sealed, api.ErrTag)
	refuses(t, nil, sealed, api.ErrTag)
	refuses(t, key, b, api.ErrTag)
}

// P5.3: Open of the result of Seal returns the bytes, also when they are sealed twice.
func TestOpenOfSeal(t *testing.T) {
	for _, key := range keys() {
		for _, b := range messages() {
			sealed := Seal(key, b)
			if got, e := Open(key, sealed); !bytes.Equal(got, b) || e != api.OK {
				t.Errorf("Open of Seal of %d bytes under %d = %x, %d", len(b), len(key), got, e)
			}
			if got, e := Open(key, Seal(key, sealed)); !bytes.Equal(got, sealed) || e != api.OK {
				t.Errorf("Open of Seal of Seal of %d bytes under %d = %x, %d", len(b), len(key), got, e)
			}
		}
	}
}

// P5.3: bytes that were changed in one bit are refused, whichever bit it is: of the bytes or of the tag.
func TestOpenRefusesChangedBits(t *testing.T) {
	for _, key := range [][]byte{nil, []byte("key"), noise(64, 1), noise(65, 2)} {
		for _, size := range []int{0, 1, 31, 32, 70} {
			sealed := Seal(key, noise(size, 10))
			for bit := range len(sealed) * 8 {
				refuses(t, key, flipped(sealed, bit), api.ErrTag)
			}
		}
	}
}

// P5.3: a key that is changed in one bit opens nothing.
func TestOpenRefusesChangedKeys(t *testing.T) {
	for _, size := range []int{1, 3, 63, 64, 65, 100} {
		key := noise(size, 11)
		sealed := Seal(key, []byte("some bytes"))
		for bit := range size * 8 {
			refuses(t, flipped(key, bit), sealed, api.ErrTag)
		}
	}
}

// P5.3: Open accepts exactly the bytes whose last 32 are the tag of the bytes before, by Go's library.
func TestOpenAgainstTheLibrary(t *testing.T) {
	for _, key := range keys() {
		for _, b := range messages() {
			tag := libraryTag(key, b)
			good := append(bytes.Clone(b), tag[:]...)
			if got, e := Open(key, good); !bytes.Equal(got, b) || e != api.OK {
				t.Errorf("Open of %d sealed bytes under %d = %x, %d", len(b), len(key), got, e)
			}
			refuses(t, key, append(bytes.Clone(b), make([]byte, 32)...), api.ErrTag)
			refuses(t, key, append(bytes.Clone(b), noise(32, 12)...), api.ErrTag)
		}
	}
}

// P5.3: keys of at most 64 bytes that differ only in trailing bytes 0 have the same tags; a byte 0 before the others, or a 65th, makes another key.
func TestTrailingZerosOfKeys(t *testing.T) {
	b := []byte("some bytes")
	for size := range 64 {
		key := noise(size, 13)
		want := Tag(key, b)
		for more := range 65 - size {
			if Tag(append(bytes.Clone(key), make([]byte, more)...), b) != want {
				t.Errorf("%d bytes 0 behind a key of %d make another tag", more, size)
			}
		}
		if Tag(append(bytes.Clone(key), make([]byte, 65-size)...), b) == want {
			t.Errorf("a key of %d bytes has the tag of the one with bytes 0 up to 65", size)
		}
		if size > 0 && Tag(append([]byte{0}, key...), b) == want {
			t.Errorf("a byte 0 before a key of %d bytes is not noticed", size)
		}
	}
	if got, e := Open([]byte("key\x00\x00"), Seal([]byte("key"), b)); !bytes.Equal(got, b) || e != api.OK {
		t.Errorf("Open under the key with bytes 0 = %x, %d", got, e)
	}
}

// P5.3: a key of more than 64 bytes has the tags of its digest; one of 64 bytes has not.
func TestDigestsOfKeys(t *testing.T) {
	b := []byte("some bytes")
	for size := range 300 {
		key := noise(size, 14)
		digest := sha256.Sum256(key)
		if same := Tag(key, b) == Tag(digest[:], b); same != (size > 64) {
			t.Errorf("a key of %d bytes and its digest: %v", size, same)
		}
	}
}

// R4: arguments stay as they were, their spare capacity included, and no result shares memory with them.
func TestArgumentsStay(t *testing.T) {
	for _, key := range keys() {
		for _, b := range messages() {
			sealed := Seal(key, b)
			wrong := flipped(sealed, 0)
			argKey, arg, argTag := roomy(key), roomy(b), roomy(sealed[len(b):])
			argSealed, argWrong := roomy(sealed), roomy(wrong)
			block, tag := Block(argKey), Tag(argKey, arg)
			spoil(block[:])
			spoil(tag[:])
			Right(argKey, arg, argTag)
			spoil(Seal(argKey, arg))
			got, _ := Open(argKey, argSealed)
			spoil(got)
			Open(argKey, argWrong)
			if !untouched(argKey, key) || !untouched(arg, b) || !untouched(argTag, sealed[len(b):]) || !untouched(argSealed, sealed) || !untouched(argWrong, wrong) {
				t.Errorf("an argument was changed or is shared: a key of %d bytes and %d bytes", len(key), len(b))
			}
		}
	}
}

// R4: arguments may share memory with each other, and bytes may lie before their key.
func TestArgumentsThatShare(t *testing.T) {
	whole := noise(100, 15)
	want := libraryTag(bytes.Clone(whole), bytes.Clone(whole))
	if Tag(whole, whole) != want || Tag(whole[50:], whole[:50]) != libraryTag(bytes.Clone(whole[50:]), bytes.Clone(whole[:50])) {
		t.Error("Tag of bytes that share memory with their key")
	}
	if got, e := Open(whole, Seal(whole, whole)); !bytes.Equal(got, whole) || e != api.OK {
		t.Errorf("Open of Seal of a key under itself = %x, %d", got, e)
	}
}

// R4 and R5: results are not kept, nor arguments: what is done to them is not seen in the next call.
func TestResultsAreNew(t *testing.T) {
	key, b := []byte("key"), []byte("some bytes")
	tag := libraryTag(key, b)
	want := append(bytes.Clone(b), tag[:]...)
	spoil(Seal(key, b))
	sealed := Seal(key, b)
	if !bytes.Equal(sealed, want) {
		t.Errorf("the second Seal = %x", sealed)
	}
	first, _ := Open(key, sealed)
	spoil(first)
	second, e := Open(key, sealed)
	if !bytes.Equal(second, b) || e != api.OK {
		t.Errorf("the second Open = %q, %d", second, e)
	}
	spoil(sealed)
	spoil(key)
	if !bytes.Equal(second, []byte("some bytes")) {
		t.Errorf("the opened bytes became %q", second)
	}
	if Tag([]byte("key"), b) != tag {
		t.Error("Tag keeps its key")
	}
}
