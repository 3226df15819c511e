// Package num is layer 1, the numbers of the language: see shared/doc/01-num.md.
package num

import (
	"math"
	"strconv"
	"strings"

	"treadwheel/api"
)

const (
	// Hardware leaves open which NaN an operation comes to; one pattern for
	// all of them keeps answers the same everywhere.
	noneBits = 0x7ff8000000000000

	floatMark   = "0f"
	floatDigits = 16

	// The first float that is past all ints of 64 bits. Its negative is still
	// the least of them, and no float lies between that and the int below it.
	pastInts = 1 << 63
)

type calculation func(a, b api.Num) (api.Num, api.Errno)

type question func(a, b api.Num) bool

// Calc: an operation.
func Calc(op int, a, b api.Num) (api.Num, api.Errno) {
	cases := calculations()
	if op < 0 || op >= len(cases) || cases[op] == nil {
		return api.Num{}, api.ErrRange
	}
	if op == api.OpFloat || op == api.OpTrunc {
		b = a // b plays no part, so its kind may not count either
	}
	if !areOfKind(op, a, b) {
		return api.Num{}, api.ErrKind
	}
	return cases[op](a, b)
}

// Test: a question.
func Test(op int, a, b api.Num) (bool, api.Errno) {
	cases := questions()
	if op < 0 || op >= len(cases) || cases[op] == nil {
		return false, api.ErrRange
	}
	if !areOfKind(op, a, b) {
		return false, api.ErrKind
	}
	return cases[op](a, b), api.OK
}

func areOfKind(op int, a, b api.Num) bool {
	float := op >= api.OpFAdd && op != api.OpFloat
	return a.Float == float && b.Float == float
}

// calculations: what each operation does with numbers of its kind; nil where
// the number is a question's.
func calculations() [api.OpTrunc + 1]calculation {
	return [api.OpTrunc + 1]calculation{
		api.OpAdd: func(a, b api.Num) (api.Num, api.Errno) { return Int(toInt(a) + toInt(b)), api.OK },
		api.OpSub: func(a, b api.Num) (api.Num, api.Errno) { return Int(toInt(a) - toInt(b)), api.OK },
		api.OpMul: func(a, b api.Num) (api.Num, api.Errno) { return Int(toInt(a) * toInt(b)), api.OK },
		api.OpDiv: func(a, b api.Num) (api.Num, api.Errno) {
			if e := divides(toInt(a), toInt(b)); e != api.OK {
				return api.Num{}, e
			}
			return Int(toInt(a) / toInt(b)), api.OK
		},
		api.OpRem: func(a, b api.Num) (api.Num, api.Errno) {
			if e := divides(toInt(a), toInt(b)); e != api.OK {
				return api.Num{}, e
			}
			return Int(toInt(a) % toInt(b)), api.OK
		},
		api.OpFAdd:  func(a, b api.Num) (api.Num, api.Errno) { return ofFloat(toFloat(a) + toFloat(b)), api.OK },
		api.OpFSub:  func(a, b api.Num) (api.Num, api.Errno) { return ofFloat(toFloat(a) - toFloat(b)), api.OK },
		api.OpFMul:  func(a, b api.Num) (api.Num, api.Errno) { return ofFloat(toFloat(a) * toFloat(b)), api.OK },
		api.OpFDiv:  func(a, b api.Num) (api.Num, api.Errno) { return ofFloat(toFloat(a) / toFloat(b)), api.OK },
		api.OpFloat: func(a, _ api.Num) (api.Num, api.Errno) { return ofFloat(float64(toInt(a))), api.OK },
		api.OpTrunc: func(a, _ api.Num) (api.Num, api.Errno) { return truncate(toFloat(a)) },
	}
}

// questions: what each question asks of numbers of its kind; nil where the
// number is a calculation's.
func questions() [api.OpFLess + 1]question {
	return [api.OpFLess + 1]question{
		api.OpEq:    func(a, b api.Num) bool { return toInt(a) == toInt(b) },
		api.OpLess:  func(a, b api.Num) bool { return toInt(a) < toInt(b) },
		api.OpFEq:   func(a, b api.Num) bool { return toFloat(a) == toFloat(b) },
		api.OpFLess: func(a, b api.Num) bool { return toFloat(a) < toFloat(b) },
	}
}

// divides: whether a quotient of the two is there.
func divides(a, b int64) api.Errno {
	if b == 0 {
		return api.ErrDivide
	}
	if a == math.MinInt64 && b == -1 {
		return api.ErrOver
	}
	return api.OK
}

func truncate(f float64) (api.Num, api.Errno) {
	// Asked this way around, so that one that is none isn't within either.
	if within := f >= -pastInts && f < pastInts; !within {
		return api.Num{}, api.ErrRange
	}
	return Int(int64(f)), api.OK
}

func toInt(n api.Num) int64 { return int64(n.Bits) }

func toFloat(n api.Num) float64 { return math.Float64frombits(n.Bits) }

func ofFloat(f float64) api.Num {
	if math.IsNaN(f) {
		return api.Num{Float: true, Bits: noneBits}
	}
	return api.Num{Float: true, Bits: math.Float64bits(f)}
}

// Int: an int.
func Int(n int64) api.Num { return api.Num{Bits: uint64(n)} }

// Print: a number's text.
func Print(n api.Num) string {
	if !n.Float {
		return strconv.FormatInt(toInt(n), 10)
	}
	digits := strconv.FormatUint(n.Bits, 16)
	return floatMark + strings.Repeat("0", floatDigits-len(digits)) + digits
}

// Parse: a text's number.
func Parse(s string) (api.Num, api.Errno) {
	if digits, marked := strings.CutPrefix(s, floatMark); marked {
		return parseFloat(digits)
	}
	return parseInt(s)
}

func parseFloat(digits string) (api.Num, api.Errno) {
	bits, err := strconv.ParseUint(digits, 16, 64)
	// The library would take digits A to F too, and fewer of them.
	if err != nil || len(digits) != floatDigits || !isMadeOf(digits, "0123456789abcdef") {
		return api.Num{}, api.ErrForm
	}
	return api.Num{Float: true, Bits: bits}, api.OK
}

func parseInt(s string) (api.Num, api.Errno) {
	if !isIntForm(s) {
		return api.Num{}, api.ErrForm
	}
	n, err := strconv.ParseInt(s, 10, 64)
	if err != nil { // nothing but its size is left to be wrong
		return api.Num{}, api.ErrRange
	}
	return Int(n), api.OK
}

// isIntForm: whether s is an int's text, of whatever size.
func isIntForm(s string) bool {
	if s == "0" {
		return true
	}
	digits := strings.TrimPrefix(s, "-")
	return digits != "" && digits[0] != '0' && isMadeOf(digits, "0123456789")
}

func isMadeOf(s, letters string) bool { return strings.TrimLeft(s, letters) == "" }
