package num_test

import (
	"math"
	"math/big"
	"strconv"
	"strings"
	"testing"

	"treadwheel/api"
	"treadwheel/num"
)

// none is the one float that is none.
var none = api.Num{Float: true, Bits: 0x7ff8000000000000}

var minusNought = math.Copysign(0, -1)

var calcs = []int{api.OpAdd, api.OpSub, api.OpMul, api.OpDiv, api.OpRem, api.OpFAdd, api.OpFSub, api.OpFMul, api.OpFDiv, api.OpFloat, api.OpTrunc}

var tests = []int{api.OpEq, api.OpLess, api.OpFEq, api.OpFLess}

var neither = []int{-1, api.OpTrunc + 1, 16, 256, math.MinInt, math.MaxInt}

var edgeInts = []int64{
	math.MinInt64, math.MinInt64 + 1, -1 << 62, -1<<53 - 1, -1 << 53, -1 << 32, -1000, -7, -3, -2, -1, 0, 1, 2, 3, 7, 10, 1000,
	1<<31 - 1, 1 << 31, 1 << 32, 1<<53 - 1, 1 << 53, 1<<53 + 1, 1<<53 + 3, 1<<62 - 1, 1 << 62, math.MaxInt64 - 512, math.MaxInt64 - 511, math.MaxInt64 - 1, math.MaxInt64,
}

var finites = []float64{
	5e-324, 1e-323, 2.2250738585072009e-308, 2.2250738585072014e-308, 1e-200, 1.0 / 3, 0.1, 0.5, 1, 1 + 0x1p-52, 1 - 0x1p-53, 1.5, 2, 2.5, 3, 7, 1 << 53, 1<<53 + 2, 1 << 63, 1e200, 0x1p1023, math.MaxFloat64,
}

// nones are some of the floats that are none: of either sign, quiet and signalling.
var nones = []uint64{0x7ff8000000000000, 0xfff8000000000000, 0x7ff0000000000001, 0xfff0000000000001, 0x7fffffffffffffff, 0xffffffffffffffff, 0x7ff8000000001234}

func flt(f float64) api.Num { return api.Num{Float: true, Bits: math.Float64bits(f)} }

func bits(b uint64) api.Num { return api.Num{Float: true, Bits: b} }

func wantsFloats(op int) bool {
	switch op {
	case api.OpFAdd, api.OpFSub, api.OpFMul, api.OpFDiv, api.OpFEq, api.OpFLess, api.OpTrunc:
		return true
	}
	return false
}

func wantCalc(t *testing.T, op int, a, b, want api.Num, e api.Errno) {
	t.Helper()
	if got, f := num.Calc(op, a, b); got != want || f != e {
		t.Errorf("Calc(%d, %v, %v) = %v, %d; want %v, %d", op, a, b, got, f, want, e)
	}
}

func wantTest(t *testing.T, op int, a, b api.Num, want bool, e api.Errno) {
	t.Helper()
	if got, f := num.Test(op, a, b); got != want || f != e {
		t.Errorf("Test(%d, %v, %v) = %v, %d; want %v, %d", op, a, b, got, f, want, e)
	}
}

// pairs hands on each pair of an int and a float with any other.
func pairs(f func(a, b api.Num)) {
	all := []api.Num{num.Int(0), num.Int(5), flt(0), flt(5)}
	for _, a := range all {
		for _, b := range all {
			f(a, b)
		}
	}
}

func TestP11Range(t *testing.T) {
	for _, op := range append(append([]int{}, neither...), tests...) {
		pairs(func(a, b api.Num) { wantCalc(t, op, a, b, api.Num{}, api.ErrRange) })
	}
}

func TestP11Kind(t *testing.T) {
	for _, op := range calcs {
		one := op == api.OpFloat || op == api.OpTrunc
		pairs(func(a, b api.Num) {
			good := a.Float == wantsFloats(op) && (one || b.Float == wantsFloats(op))
			got, e := num.Calc(op, a, b)
			if (e == api.ErrKind) == good {
				t.Errorf("Calc(%d, %v, %v) answers %d", op, a, b, e)
			}
			if e != api.OK && got != (api.Num{}) {
				t.Errorf("Calc(%d, %v, %v) answers %v beside an error", op, a, b, got)
			}
		})
	}
	wantCalc(t, api.OpDiv, flt(1), num.Int(0), api.Num{}, api.ErrKind)
	wantCalc(t, api.OpRem, num.Int(0), flt(0), api.Num{}, api.ErrKind)
}

// modulo is n, brought among the ints of 64 bits.
func modulo(n *big.Int) api.Num {
	all := new(big.Int).Lsh(big.NewInt(1), 64)
	return num.Int(int64(new(big.Int).Mod(n, all).Uint64()))
}

func TestP11Ints(t *testing.T) {
	for _, x := range edgeInts {
		for _, y := range edgeInts {
			a, b := num.Int(x), num.Int(y)
			p, q := big.NewInt(x), big.NewInt(y)
			wantCalc(t, api.OpAdd, a, b, modulo(new(big.Int).Add(p, q)), api.OK)
			wantCalc(t, api.OpSub, a, b, modulo(new(big.Int).Sub(p, q)), api.OK)
			wantCalc(t, api.OpMul, a, b, modulo(new(big.Int).Mul(p, q)), api.OK)
			e := api.OK
			switch {
			case y == 0:
				e = api.ErrDivide
			case x == math.MinInt64 && y == -1:
				e = api.ErrOver
			}
			if e != api.OK {
				wantCalc(t, api.OpDiv, a, b, api.Num{}, e)
				wantCalc(t, api.OpRem, a, b, api.Num{}, e)
				continue
			}
			quotient, left := new(big.Int).QuoRem(p, q, new(big.Int))
			wantCalc(t, api.OpDiv, a, b, num.Int(quotient.Int64()), api.OK)
			wantCalc(t, api.OpRem, a, b, num.Int(left.Int64()), api.OK)
		}
	}
}

func TestP11Quotients(t *testing.T) {
	for _, x := range []struct{ a, b, quotient, left int64 }{
		{7, 2, 3, 1}, {7, -2, -3, 1}, {-7, 2, -3, -1}, {-7, -2, 3, -1}, {0, -5, 0, 0}, {1, 2, 0, 1}, {-1, 2, 0, -1},
		{math.MinInt64, 1, math.MinInt64, 0}, {math.MaxInt64, -1, -math.MaxInt64, 0}, {math.MinInt64 + 1, -1, math.MaxInt64, 0}, {5, math.MinInt64, 0, 5},
	} {
		wantCalc(t, api.OpDiv, num.Int(x.a), num.Int(x.b), num.Int(x.quotient), api.OK)
		wantCalc(t, api.OpRem, num.Int(x.a), num.Int(x.b), num.Int(x.left), api.OK)
	}
	for _, op := range []int{api.OpDiv, api.OpRem} {
		for _, n := range edgeInts {
			wantCalc(t, op, num.Int(n), num.Int(0), api.Num{}, api.ErrDivide)
		}
		wantCalc(t, op, num.Int(math.MinInt64), num.Int(-1), api.Num{}, api.ErrOver)
	}
}

// nearest is an exact answer as a float; noughts are left out, whose signs it can't tell.
func nearest(r *big.Rat) (api.Num, bool) {
	f, _ := r.Float64()
	return flt(f), f != 0
}

func TestP11Floats(t *testing.T) {
	var all []float64
	for _, f := range finites {
		all = append(all, f, -f)
	}
	for _, x := range all {
		for _, y := range all {
			p, q := new(big.Rat).SetFloat64(x), new(big.Rat).SetFloat64(y)
			for op, exact := range map[int]*big.Rat{
				api.OpFAdd: new(big.Rat).Add(p, q),
				api.OpFSub: new(big.Rat).Sub(p, q),
				api.OpFMul: new(big.Rat).Mul(p, q),
				api.OpFDiv: new(big.Rat).Quo(p, q),
			} {
				if want, told := nearest(exact); told {
					wantCalc(t, op, flt(x), flt(y), want, api.OK)
				}
			}
		}
	}
}

func TestP11FloatEdges(t *testing.T) {
	inf := math.Inf(1)
	for _, x := range []struct {
		op         int
		a, b, want float64
	}{
		{api.OpFDiv, 1, minusNought, -inf}, {api.OpFDiv, 1, 0, inf}, {api.OpFDiv, -1, 0, -inf}, {api.OpFDiv, -1, minusNought, inf},
		{api.OpFDiv, 1, -inf, minusNought}, {api.OpFDiv, 0, -3, minusNought}, {api.OpFDiv, inf, 0, inf},
		{api.OpFAdd, minusNought, minusNought, minusNought}, {api.OpFAdd, minusNought, 0, 0}, {api.OpFAdd, 1, -1, 0}, {api.OpFAdd, inf, -1, inf},
		{api.OpFSub, 0, 0, 0}, {api.OpFSub, minusNought, 0, minusNought}, {api.OpFSub, 0, minusNought, 0}, {api.OpFSub, 1, inf, -inf}, {api.OpFSub, 3, 1, 2},
		{api.OpFMul, minusNought, 3, minusNought}, {api.OpFMul, minusNought, -3, 0}, {api.OpFMul, -5e-324, 0.5, minusNought}, {api.OpFMul, 1e308, 10, inf}, {api.OpFMul, -inf, -2, inf},
		{api.OpFAdd, 1 << 53, 1, 1 << 53}, {api.OpFAdd, 1<<53 + 2, 1, 1<<53 + 4},
	} {
		wantCalc(t, x.op, flt(x.a), flt(x.b), flt(x.want), api.OK)
	}
	if got, e := num.Calc(api.OpFDiv, flt(1), flt(minusNought)); num.Print(got) != "0ffff0000000000000" || e != api.OK {
		t.Error(got, e)
	}
}

func TestP11None(t *testing.T) {
	inf := math.Inf(1)
	for _, x := range []struct {
		op   int
		a, b float64
	}{
		{api.OpFAdd, inf, -inf}, {api.OpFAdd, -inf, inf}, {api.OpFSub, inf, inf}, {api.OpFSub, -inf, -inf},
		{api.OpFMul, 0, inf}, {api.OpFMul, -inf, minusNought}, {api.OpFDiv, 0, 0}, {api.OpFDiv, minusNought, 0}, {api.OpFDiv, inf, -inf},
	} {
		wantCalc(t, x.op, flt(x.a), flt(x.b), none, api.OK)
	}
	for _, op := range []int{api.OpFAdd, api.OpFSub, api.OpFMul, api.OpFDiv} {
		for _, n := range nones {
			for _, f := range []float64{0, -1, inf} {
				wantCalc(t, op, bits(n), flt(f), none, api.OK)
				wantCalc(t, op, flt(f), bits(n), none, api.OK)
			}
			for _, m := range nones {
				wantCalc(t, op, bits(n), bits(m), none, api.OK)
			}
		}
	}
}

func TestP11Float(t *testing.T) {
	for n, want := range map[int64]float64{
		0: 0, -1: -1, 1<<53 + 1: 1 << 53, 1<<53 + 2: 1<<53 + 2, 1<<53 + 3: 1<<53 + 4, -1<<53 - 1: -1 << 53, -1<<53 - 3: -1<<53 - 4,
		math.MaxInt64: 1 << 63, math.MaxInt64 - 511: 1 << 63, math.MaxInt64 - 512: 1<<63 - 1024, math.MinInt64: -1 << 63, math.MinInt64 + 512: -1 << 63,
	} {
		for _, b := range []api.Num{{}, flt(3), none} { // b plays no part
			wantCalc(t, api.OpFloat, num.Int(n), b, flt(want), api.OK)
		}
	}
	for _, n := range edgeInts {
		want, _ := new(big.Float).SetInt64(n).Float64()
		wantCalc(t, api.OpFloat, num.Int(n), num.Int(n), flt(want), api.OK)
	}
}

func TestP11Trunc(t *testing.T) {
	for f, want := range map[float64]int64{
		0: 0, minusNought: 0, 0.999: 0, -0.999: 0, 5e-324: 0, 1.5: 1, -1.5: -1, 2.9: 2, -2.9: -2, 1e15 + 0.5: 1e15, 1 << 53: 1 << 53,
		1<<63 - 1024: math.MaxInt64 - 1023, -1 << 63: math.MinInt64, -1<<63 + 1024: math.MinInt64 + 1024,
	} {
		for _, b := range []api.Num{{}, num.Int(3), flt(3), none} { // b plays no part
			wantCalc(t, api.OpTrunc, flt(f), b, num.Int(want), api.OK)
		}
	}
	for _, f := range []float64{1 << 63, -1<<63 - 2048, 1e300, -1e300, math.Inf(1), math.Inf(-1)} {
		wantCalc(t, api.OpTrunc, flt(f), flt(0), api.Num{}, api.ErrRange)
	}
	for _, n := range nones {
		wantCalc(t, api.OpTrunc, bits(n), flt(0), api.Num{}, api.ErrRange)
	}
}

func TestP12Range(t *testing.T) {
	for _, op := range append(append([]int{}, neither...), calcs...) {
		pairs(func(a, b api.Num) { wantTest(t, op, a, b, false, api.ErrRange) })
	}
}

func TestP12Kind(t *testing.T) {
	for _, op := range tests {
		pairs(func(a, b api.Num) {
			good := a.Float == wantsFloats(op) && b.Float == wantsFloats(op)
			is, e := num.Test(op, a, b)
			if !good && (is || e != api.ErrKind) || good && e != api.OK {
				t.Errorf("Test(%d, %v, %v) = %v, %d", op, a, b, is, e)
			}
		})
	}
}

func TestP12Ints(t *testing.T) {
	for _, x := range edgeInts {
		for _, y := range edgeInts {
			wantTest(t, api.OpEq, num.Int(x), num.Int(y), x == y, api.OK)
			wantTest(t, api.OpLess, num.Int(x), num.Int(y), x < y, api.OK)
		}
	}
	wantTest(t, api.OpLess, num.Int(-1), num.Int(0), true, api.OK)
	wantTest(t, api.OpLess, num.Int(math.MaxInt64), num.Int(math.MinInt64), false, api.OK)
}

func TestP12Floats(t *testing.T) {
	rising := []float64{math.Inf(-1), -math.MaxFloat64, -1, -5e-324, 0, 5e-324, 1, 1 + 0x1p-52, 2, math.MaxFloat64, math.Inf(1)}
	for i, x := range rising {
		for j, y := range rising {
			wantTest(t, api.OpFEq, flt(x), flt(y), i == j, api.OK)
			wantTest(t, api.OpFLess, flt(x), flt(y), i < j, api.OK)
		}
		for _, n := range nones {
			for _, op := range []int{api.OpFEq, api.OpFLess} {
				wantTest(t, op, flt(x), bits(n), false, api.OK)
				wantTest(t, op, bits(n), flt(x), false, api.OK)
				wantTest(t, op, bits(n), bits(n), false, api.OK)
			}
		}
	}
	wantTest(t, api.OpFEq, flt(0), flt(minusNought), true, api.OK)
	wantTest(t, api.OpFEq, flt(minusNought), flt(0), true, api.OK)
	wantTest(t, api.OpFLess, flt(minusNought), flt(0), false, api.OK)
	wantTest(t, api.OpFLess, flt(0), flt(minusNought), false, api.OK)
}

func TestP13Int(t *testing.T) {
	for n, want := range map[int64]uint64{0: 0, 5: 5, -1: 0xffffffffffffffff, math.MinInt64: 1 << 63, math.MaxInt64: 1<<63 - 1} {
		if got := num.Int(n); got != (api.Num{Bits: want}) {
			t.Errorf("Int(%d) = %v", n, got)
		}
	}
}

// texts are numbers with the texts that they have.
func texts() map[string]api.Num {
	return map[string]api.Num{
		"0": num.Int(0), "7": num.Int(7), "-1": num.Int(-1), "10": num.Int(10), "-100": num.Int(-100), "1234567890": num.Int(1234567890),
		"9223372036854775807": num.Int(math.MaxInt64), "9223372036854775806": num.Int(math.MaxInt64 - 1), "-9223372036854775808": num.Int(math.MinInt64), "-9223372036854775807": num.Int(math.MinInt64 + 1),
		"0f0000000000000000": flt(0), "0f8000000000000000": flt(minusNought), "0f3ff0000000000000": flt(1), "0fbff8000000000000": flt(-1.5),
		"0f7ff0000000000000": flt(math.Inf(1)), "0ffff0000000000000": flt(math.Inf(-1)), "0f0000000000000001": bits(1),
		"0f7ff8000000000000": none, "0f7ff0000000000001": bits(0x7ff0000000000001), "0fffffffffffffffff": bits(math.MaxUint64), "0f0123456789abcdef": bits(0x0123456789abcdef),
	}
}

func TestP13Print(t *testing.T) {
	for s, n := range texts() {
		if got := num.Print(n); got != s {
			t.Errorf("Print(%v) = %q; want %q", n, got, s)
		}
	}
}

func TestP13Parse(t *testing.T) {
	for s, n := range texts() {
		if got, e := num.Parse(s); got != n || e != api.OK {
			t.Errorf("Parse(%q) = %v, %d", s, got, e)
		}
	}
}

func TestP13Form(t *testing.T) {
	for _, s := range []string{
		"", "-", "--1", "-0", "00", "01", "007", "-01", "-007", "+1", "+0", " 1", "1 ", "1\n", "\x001", "1_000", "1,0", "1.5", "1e3", "0x10", "0b1", "1a", "a", "\xff", "1\xff", "\u0661", "\uff11", "\u22121",
		"0f", "0F3ff0000000000000", "0f3ff", "0f3ff000000000000", "0f3ff00000000000000", "0f03ff0000000000000", "0f3FF0000000000000", "0f3ff000000000000A", "0f3ff000000000000g", "0f+ff0000000000000", "0f-ff0000000000000", "0f3ff0_0000000000", "0f 3ff000000000000", "-0f3ff0000000000000", "00f3ff0000000000000", "f3ff0000000000000", "3ff0000000000000", "0f3ff0000000000000 ", "0f\uff13ff000000000", "0f0f3ff0000000000000",
		"99999999999999999999x", "x99999999999999999999", "-099999999999999999999", "099999999999999999999", "9223372036854775808 ",
		strings.Repeat("9", 1000000) + "a", strings.Repeat("0", 1000000), "0f" + strings.Repeat("0", 1000000), "0f" + strings.Repeat("f", 17),
	} {
		if got, e := num.Parse(s); got != (api.Num{}) || e != api.ErrForm {
			t.Errorf("Parse(%.40q) = %v, %d; want ErrForm", s, got, e)
		}
	}
}

func TestP13Size(t *testing.T) {
	for _, s := range []string{
		"9223372036854775808", "9223372036854775809", "-9223372036854775809", "-9223372036854775810", "18446744073709551615", "18446744073709551616", "-18446744073709551616", "10000000000000000000", "99999999999999999999", "-99999999999999999999",
		strings.Repeat("9", 1000000), "-1" + strings.Repeat("0", 1000000),
	} {
		if got, e := num.Parse(s); got != (api.Num{}) || e != api.ErrRange {
			t.Errorf("Parse(%.40q) = %v, %d; want ErrRange", s, got, e)
		}
	}
}

// patterns are bits of many shapes: single ones, single noughts, runs, and some without an order.
func patterns() []uint64 {
	out := append([]uint64{0, math.MaxUint64}, nones...)
	for i := range 64 {
		one := uint64(1) << i
		out = append(out, one, ^one, one-1, -one)
	}
	for i := range uint64(5000) {
		mixed := (i + 1) * 0x9e3779b97f4a7c15
		out = append(out, mixed, mixed>>(i%64))
	}
	return out
}

func TestP14PrintedThenParsed(t *testing.T) {
	for _, b := range patterns() {
		for _, n := range []api.Num{{Bits: b}, {Float: true, Bits: b}} {
			if got, e := num.Parse(num.Print(n)); got != n || e != api.OK {
				t.Errorf("%v is printed %q, which is parsed %v, %d", n, num.Print(n), got, e)
			}
		}
	}
}

func TestP14ParsedThenPrinted(t *testing.T) {
	const letters = "-+01259acdfF _"
	short := []string{""}
	for from := 0; len(short[from]) < 4; from++ {
		for _, c := range letters {
			short = append(short, short[from]+string(c))
		}
	}
	taken := 0
	for _, s := range short {
		for _, text := range []string{s, "0f3ff0000000000000"[:18-len(s)] + s, "92233720368547758" + s, "-92233720368547758" + s} {
			n, e := num.Parse(text)
			if e == api.OK && num.Print(n) != text {
				t.Errorf("%q is parsed %v, which is printed %q", text, n, num.Print(n))
			}
			if e == api.OK {
				taken++
			}
			if _, err := strconv.ParseInt(text, 10, 64); e == api.OK && !n.Float && err != nil {
				t.Errorf("%q is taken as an int", text)
			}
		}
	}
	if taken < 1000 {
		t.Errorf("%d texts were taken: too few to tell", taken)
	}
}
