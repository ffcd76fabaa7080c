// Package wrap is layer 1: see shared/doc/01-wrap.md.
package wrap

import (
	"strconv"

	"midstream/api"
)

// Bin is an operation of two values.
func Bin(op int, a, b int32) (int32, bool) {
	switch op {
	case api.OpAdd:
		return a + b, true
	case api.OpSub:
		return a - b, true
	case api.OpMul:
		return a * b, true
	case api.OpDiv:
		return quotient(a, b), true
	case api.OpRem:
		return a - b*quotient(a, b), true
	case api.OpShl:
		return a << places(b), true
	case api.OpShr:
		return a >> places(b), true
	case api.OpAnd:
		return a & b, true
	case api.OpOr:
		return a | b, true
	case api.OpXor:
		return a ^ b, true
	}
	return compare(op, a, b)
}

// quotient never panics: Go would at b = 0, and defines -2147483648 / -1 as the wrapped number.
func quotient(a, b int32) int32 {
	if b == 0 {
		return 0
	}
	return a / b
}

// places is unsigned because a shift by a negative number panics.
func places(b int32) uint32 {
	return uint32(b) & 31
}

// compare gets every op that Bin itself does not know, so it also refuses those that are none.
func compare(op int, a, b int32) (int32, bool) {
	switch op {
	case api.OpEq:
		return Truth(a == b), true
	case api.OpNe:
		return Truth(a != b), true
	case api.OpLe:
		if a == b {
			return 1, true
		}
		fallthrough
	case api.OpLt:
		return Truth(a < b), true
	case api.OpGe:
		if a == b {
			return 1, true
		}
		fallthrough
	case api.OpGt:
		return Truth(a > b), true
	}
	return 0, false
}

// Un is an operation of one value.
func Un(op int, a int32) (int32, bool) {
	switch op {
	case api.UnNeg:
		return -a, true
	case api.UnNot:
		return Truth(a == 0), true
	}
	return 0, false
}

// Of is a number by its lowest 32 bits.
func Of(n int64) int32 {
	return int32(n)
}

// Truth is a truth as a value.
func Truth(b bool) int32 {
	if b {
		return 1
	}
	return 0
}

// Digits is a number as text.
func Digits(a int32) string {
	return strconv.FormatInt(int64(a), 10)
}

// Read is a text as a number.
func Read(s string) (int32, bool) {
	n, err := strconv.ParseInt(s, 10, 32)
	// ParseInt also takes a plus, a minus before 0 and leading zeros, none of which Digits writes.
	if err != nil || Digits(int32(n)) != s {
		return 0, false
	}
	return int32(n), true
}
