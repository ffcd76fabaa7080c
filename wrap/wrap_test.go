package wrap

import (
	"math"
	"math/big"
	"strconv"
	"strings"
	"testing"

	"midstream/api"
)

const (
	least = math.MinInt32
	most  = math.MaxInt32
)

// notOps are numbers of no operation, among them some whose lowest bits are those of one.
var notOps = []int{0, -1, -api.OpGe, api.Ops, api.Ops + 1, 99, 1<<32 + api.OpAdd, 1<<8 + api.OpAdd, 1<<16 + api.OpAdd, -1<<32 + api.OpMul, math.MinInt, math.MaxInt}

// edges are the values around which wrapping, rounding and shifting change.
func edges() []int32 {
	out := []int32{least, least + 1, least + 2, most, most - 1, 1 << 16, 1<<16 - 1, -1 << 16, 46340, 46341, -46341, 100, -100}
	for n := int32(-9); n <= 9; n++ {
		out = append(out, n)
	}
	for _, n := range []int32{30, 31, 32, 33, 63, 64, 65} {
		out = append(out, n, -n)
	}
	return out
}

// samples are the edges and a fixed sequence that has all magnitudes.
func samples(count int) []int32 {
	out := edges()
	x := uint64(88172645463325252)
	for range count {
		x ^= x << 13
		x ^= x >> 7
		x ^= x << 17
		out = append(out, int32(uint32(x>>32))>>(x&31))
	}
	return out
}

// wrapped is the number of the chapter's section 'Words', found without any wrap-round of Go's.
func wrapped(n *big.Int) int32 {
	whole := new(big.Int).Lsh(big.NewInt(1), 32)
	r := new(big.Int).Mod(n, whole)
	if r.Cmp(big.NewInt(most)) > 0 {
		r.Sub(r, whole)
	}
	return int32(r.Int64())
}

func truth(b bool) *big.Int {
	if b {
		return big.NewInt(1)
	}
	return big.NewInt(0)
}

// exact is the result of an operation before it is wrapped.
func exact(op int, a, b int32) *big.Int {
	x, y, out := big.NewInt(int64(a)), big.NewInt(int64(b)), new(big.Int)
	k := uint(((int64(b) % 32) + 32) % 32)
	switch op {
	case api.OpAdd:
		return out.Add(x, y)
	case api.OpSub:
		return out.Sub(x, y)
	case api.OpMul:
		return out.Mul(x, y)
	case api.OpDiv:
		if b == 0 {
			return out
		}
		return out.Quo(x, y)
	case api.OpRem:
		if b == 0 {
			return x
		}
		return out.Rem(x, y)
	case api.OpShl:
		return out.Lsh(x, k)
	case api.OpShr:
		return out.Rsh(x, k)
	case api.OpAnd:
		return out.And(x, y)
	case api.OpOr:
		return out.Or(x, y)
	case api.OpXor:
		return out.Xor(x, y)
	case api.OpEq:
		return truth(x.Cmp(y) == 0)
	case api.OpNe:
		return truth(x.Cmp(y) != 0)
	case api.OpLt:
		return truth(x.Cmp(y) < 0)
	case api.OpLe:
		return truth(x.Cmp(y) <= 0)
	case api.OpGt:
		return truth(x.Cmp(y) > 0)
	}
	return truth(x.Cmp(y) >= 0)
}

// bin is the value of an operation that there is.
func bin(t *testing.T, op int, a, b int32) int32 {
	t.Helper()
	n, ok := Bin(op, a, b)
	if !ok {
		t.Fatalf("Bin(%d, %d, %d) returned false", op, a, b)
	}
	return n
}

// P1.1: ordinary inputs and edge cases, written out.
func TestBinCases(t *testing.T) {
	for _, c := range []struct {
		op         int
		a, b, want int32
	}{
		{api.OpAdd, 2, 3, 5},
		{api.OpAdd, most, 1, least},
		{api.OpAdd, least, -1, most},
		{api.OpAdd, least, least, 0},
		{api.OpSub, 2, 3, -1},
		{api.OpSub, least, 1, most},
		{api.OpSub, 0, least, least},
		{api.OpMul, -6, 7, -42},
		{api.OpMul, 65536, 65536, 0},
		{api.OpMul, 46341, 46341, -2147479015},
		{api.OpMul, least, -1, least},
		{api.OpDiv, 7, 2, 3},
		{api.OpDiv, -7, 2, -3},
		{api.OpDiv, 7, -2, -3},
		{api.OpDiv, -7, -2, 3},
		{api.OpDiv, 7, 0, 0},
		{api.OpDiv, -7, 0, 0},
		{api.OpDiv, least, 0, 0},
		{api.OpDiv, 0, 0, 0},
		{api.OpDiv, least, -1, least},
		{api.OpDiv, least, 1, least},
		{api.OpDiv, least, least, 1},
		{api.OpDiv, most, least, 0},
		{api.OpRem, 7, 2, 1},
		{api.OpRem, -7, 2, -1},
		{api.OpRem, 7, -2, 1},
		{api.OpRem, -7, -2, -1},
		{api.OpRem, 7, 0, 7},
		{api.OpRem, -7, 0, -7},
		{api.OpRem, least, 0, least},
		{api.OpRem, least, -1, 0},
		{api.OpRem, most, least, most},
		{api.OpShl, 3, 4, 48},
		{api.OpShl, 1, 31, least},
		{api.OpShl, 3, 31, least},
		{api.OpShl, 5, 32, 5},
		{api.OpShl, 1, 33, 2},
		{api.OpShl, 1, 64, 1},
		{api.OpShl, 1, -1, least},
		{api.OpShl, 1, -32, 1},
		{api.OpShl, 1, least, 1},
		{api.OpShl, 1, most, least},
		{api.OpShr, 48, 4, 3},
		{api.OpShr, -7, 1, -4},
		{api.OpShr, -1, 31, -1},
		{api.OpShr, most, 31, 0},
		{api.OpShr, -7, 32, -7},
		{api.OpShr, -7, 33, -4},
		{api.OpShr, least, 31, -1},
		{api.OpShr, 8, -31, 4},
		{api.OpShr, 8, least, 8},
		{api.OpAnd, 12, 10, 8},
		{api.OpAnd, -1, 5, 5},
		{api.OpOr, 12, 10, 14},
		{api.OpOr, least, most, -1},
		{api.OpXor, 12, 10, 6},
		{api.OpXor, -1, 1, -2},
		{api.OpEq, 3, 3, 1},
		{api.OpEq, 3, 4, 0},
		{api.OpNe, 3, 3, 0},
		{api.OpNe, 3, -3, 1},
		{api.OpLt, -1, 0, 1},
		{api.OpLt, 0, 0, 0},
		{api.OpLt, least, most, 1},
		{api.OpLe, 0, 0, 1},
		{api.OpLe, -1, 0, 1},
		{api.OpLe, 1, 0, 0},
		{api.OpGt, 1, 0, 1},
		{api.OpGt, 0, 0, 0},
		{api.OpGt, least, most, 0},
		{api.OpGe, 0, 0, 1},
		{api.OpGe, 1, 0, 1},
		{api.OpGe, -1, 0, 0},
	} {
		if n, ok := Bin(c.op, c.a, c.b); n != c.want || !ok {
			t.Errorf("Bin(%d, %d, %d) = %d, %v, want %d, true", c.op, c.a, c.b, n, ok, c.want)
		}
	}
}

// P1.1: every operation against exact numbers.
func TestBinExact(t *testing.T) {
	all := samples(60)
	for op := api.OpAdd; op < api.Ops; op++ {
		for _, a := range all {
			for _, b := range all {
				want := wrapped(exact(op, a, b))
				if n, ok := Bin(op, a, b); n != want || !ok {
					t.Fatalf("Bin(%d, %d, %d) = %d, %v, want %d, true", op, a, b, n, ok, want)
				}
			}
		}
	}
}

// P1.1: an op that is none.
func TestBinNone(t *testing.T) {
	for _, op := range notOps {
		for _, a := range edges() {
			if n, ok := Bin(op, a, 3); n != 0 || ok {
				t.Errorf("Bin(%d, %d, 3) = %d, %v, want 0, false", op, a, n, ok)
			}
		}
	}
}

// P1.2.
func TestUn(t *testing.T) {
	for _, c := range []struct{ a, neg, not int32 }{
		{0, 0, 1},
		{1, -1, 0},
		{-1, 1, 0},
		{5, -5, 0},
		{2, -2, 0},
		{1 << 16, -1 << 16, 0},
		{most, -most, 0},
		{least + 1, most, 0},
		{least, least, 0},
	} {
		if n, ok := Un(api.UnNeg, c.a); n != c.neg || !ok {
			t.Errorf("Un(UnNeg, %d) = %d, %v, want %d, true", c.a, n, ok, c.neg)
		}
		if n, ok := Un(api.UnNot, c.a); n != c.not || !ok {
			t.Errorf("Un(UnNot, %d) = %d, %v, want %d, true", c.a, n, ok, c.not)
		}
	}
	for _, a := range samples(500) {
		want := wrapped(big.NewInt(-int64(a)))
		if n, ok := Un(api.UnNeg, a); n != want || !ok {
			t.Errorf("Un(UnNeg, %d) = %d, %v, want %d, true", a, n, ok, want)
		}
	}
}

// P1.2: an op that is none, those of Bin among them.
func TestUnNone(t *testing.T) {
	ops := append([]int{api.Uns, api.Uns + 1, api.OpGe, 1<<32 + api.UnNot}, notOps...)
	for _, op := range ops {
		for _, a := range edges() {
			if n, ok := Un(op, a); n != 0 || ok {
				t.Errorf("Un(%d, %d) = %d, %v, want 0, false", op, a, n, ok)
			}
		}
	}
}

// P1.3.
func TestOf(t *testing.T) {
	for _, c := range []struct {
		n    int64
		want int32
	}{
		{0, 0},
		{-30, -30},
		{most, most},
		{most + 1, least},
		{least, least},
		{least - 1, most},
		{1<<32 - 1, -1},
		{1 << 32, 0},
		{1<<32 + 5, 5},
		{-1 << 32, 0},
		{-1<<32 - 5, -5},
		{math.MaxInt64, -1},
		{math.MinInt64, 0},
		{math.MinInt64 + 7, 7},
	} {
		if n := Of(c.n); n != c.want {
			t.Errorf("Of(%d) = %d, want %d", c.n, n, c.want)
		}
	}
	for _, a := range samples(30) {
		for _, b := range samples(30) {
			n := int64(a)<<32 ^ int64(b)
			if want := wrapped(big.NewInt(n)); Of(n) != want {
				t.Errorf("Of(%d) = %d, want %d", n, Of(n), want)
			}
		}
	}
}

// P1.3.
func TestTruth(t *testing.T) {
	if Truth(true) != 1 || Truth(false) != 0 {
		t.Error(Truth(true), Truth(false))
	}
}

// P1.4: what Digits writes, and that Read reads it.
func TestDigits(t *testing.T) {
	for _, c := range []struct {
		a    int32
		want string
	}{
		{0, "0"},
		{7, "7"},
		{-7, "-7"},
		{10, "10"},
		{-30, "-30"},
		{1000000000, "1000000000"},
		{most, "2147483647"},
		{least, "-2147483648"},
		{least + 1, "-2147483647"},
	} {
		if s := Digits(c.a); s != c.want {
			t.Errorf("Digits(%d) = %q, want %q", c.a, s, c.want)
		}
		if n, ok := Read(c.want); n != c.a || !ok {
			t.Errorf("Read(%q) = %d, %v, want %d, true", c.want, n, ok, c.a)
		}
	}
	for _, a := range samples(500) {
		s := Digits(a)
		if s != strconv.Itoa(int(a)) {
			t.Errorf("Digits(%d) = %q", a, s)
		}
		if n, ok := Read(s); n != a || !ok {
			t.Errorf("Read(%q) = %d, %v, want %d, true", s, n, ok, a)
		}
	}
}

// P1.4: the texts that Read refuses.
func TestReadRefuses(t *testing.T) {
	for _, s := range []string{
		"", "-", "+", "--", "-0", "+0", "00", "07", "-07", "-00", "+1", "--1", "-+1", "1-",
		"2147483648", "-2147483649", "4294967296", "4294967297", "-4294967297", "9999999999",
		"9223372036854775808", "18446744073709551617", "99999999999999999999999",
		" 1", "1 ", "\t1", "1\n", "1\x00", "\x00", "1_0", "1,0", "1.0", "1.", ".1", "1e3", "0x1", "0b1", "0o1", "0x", "a", "1a", "/", ":", "-:",
		"inf", "true", "١", "٣", "−1", "\xff", "1\xff",
		strings.Repeat("0", 40), strings.Repeat("0", 40) + "1", "1" + strings.Repeat("0", 1<<16), strings.Repeat("-", 1<<16),
	} {
		if n, ok := Read(s); n != 0 || ok {
			t.Errorf("Read(%.40q) = %d, %v, want 0, false", s, n, ok)
		}
	}
}

// P1.4: of all short texts, Read takes those that Digits writes, and no others.
func TestReadShortTexts(t *testing.T) {
	written := map[string]int32{}
	for n := int32(-99); n <= 999; n++ {
		written[strconv.Itoa(int(n))] = n
	}
	texts := []string{""}
	for range 3 {
		for _, s := range texts {
			for _, c := range "+-0123456789_ x" {
				texts = append(texts, s+string(c))
			}
		}
	}
	for _, s := range texts {
		want, is := written[s]
		if n, ok := Read(s); n != want || ok != is {
			t.Errorf("Read(%q) = %d, %v, want %d, %v", s, n, ok, want, is)
		}
	}
}

// P1.5: the laws of a commutative ring.
func TestRing(t *testing.T) {
	add := func(a, b int32) int32 { return bin(t, api.OpAdd, a, b) }
	mul := func(a, b int32) int32 { return bin(t, api.OpMul, a, b) }
	all := samples(20)
	for _, a := range all {
		neg, _ := Un(api.UnNeg, a)
		if add(a, 0) != a || mul(a, 1) != a || add(a, neg) != 0 {
			t.Errorf("0, 1 or the negative of %d", a)
		}
		for _, b := range all {
			if add(a, b) != add(b, a) || mul(a, b) != mul(b, a) {
				t.Errorf("commuting %d, %d", a, b)
			}
			if add(bin(t, api.OpSub, a, b), b) != a {
				t.Errorf("the difference of %d, %d", a, b)
			}
			for _, c := range all {
				if add(add(a, b), c) != add(a, add(b, c)) || mul(mul(a, b), c) != mul(a, mul(b, c)) {
					t.Errorf("associating %d, %d, %d", a, b, c)
				}
				if mul(a, add(b, c)) != add(mul(a, b), mul(a, c)) {
					t.Errorf("distributing %d, %d, %d", a, b, c)
				}
			}
		}
	}
}

func size(n int32) int64 {
	if n < 0 {
		return -int64(n)
	}
	return int64(n)
}

// P1.5: the quotient and the remainder.
func TestDivision(t *testing.T) {
	all := samples(100)
	for _, a := range all {
		for _, b := range all {
			q, r := bin(t, api.OpDiv, a, b), bin(t, api.OpRem, a, b)
			if bin(t, api.OpAdd, bin(t, api.OpMul, q, b), r) != a {
				t.Errorf("%d by %d: %d times the divisor plus %d", a, b, q, r)
			}
			if b != 0 && size(r) >= size(b) {
				t.Errorf("%d by %d: the remainder %d is not less than the divisor", a, b, r)
			}
			if r != 0 && (r < 0) != (a < 0) {
				t.Errorf("%d by %d: the remainder %d has another sign", a, b, r)
			}
		}
	}
}

// P1.5: a left shift is a product.
func TestShiftIsProduct(t *testing.T) {
	for _, a := range samples(100) {
		power := int32(1)
		for k := int32(0); k < 32; k++ {
			want := bin(t, api.OpMul, a, power)
			for _, b := range []int32{k, k + 32, k - 32, k + 1<<20} {
				if n := bin(t, api.OpShl, a, b); n != want {
					t.Errorf("%d shifted by %d is %d, want %d", a, b, n, want)
				}
			}
			power = bin(t, api.OpAdd, power, power)
		}
	}
}

// P1.5: of less, equal and greater exactly one is true.
func TestTrichotomy(t *testing.T) {
	all := samples(100)
	for _, a := range all {
		for _, b := range all {
			lt, eq, gt := bin(t, api.OpLt, a, b), bin(t, api.OpEq, a, b), bin(t, api.OpGt, a, b)
			if lt+eq+gt != 1 || lt < 0 || eq < 0 || gt < 0 {
				t.Errorf("%d and %d: %d, %d, %d", a, b, lt, eq, gt)
			}
		}
	}
}
