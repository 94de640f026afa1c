package affine_test

import (
	"fmt"
	"math"
	"slices"
	"strings"
	"testing"

	"lockstep/affine"
	"lockstep/api"
	"lockstep/check"
	"lockstep/code"
	"lockstep/text"
)

// fn parses a function's text: p 1 and q 2, of 64 bits, a byte 3 and a condition
// 4 are its parameters.
func fn(t *testing.T, blocks string) api.Func {
	t.Helper()
	f, e := text.Parse("func (64 64 8 1) 64 " + strings.Join(strings.Fields(blocks), " "))
	if e != api.OK {
		t.Fatalf("%q: %v", blocks, e)
	}
	if e := check.Check(f, api.Lanes); e != api.OK {
		t.Fatalf("%q isn't right: %v", blocks, e)
	}
	return f
}

// checkFn checks the form of a value of a function.
func checkFn(t *testing.T, f api.Func, v int, want api.Form) {
	t.Helper()
	x, e := affine.Of(f, v)
	if e != api.OK || !isSame(x, want) || !affine.May(x) {
		s, _ := text.Print(f)
		t.Errorf("P17.2: Of(%v, %d): %v %v, not %v", s, v, x, e, want)
	}
}

// checkOf checks the form of a value of a function of one block, by its
// operations: 5 is 8, 6 is 3, and 7 is 64 there.
func checkOf(t *testing.T, ops string, v int, want api.Form) {
	t.Helper()
	checkFn(t, fn(t, "block const 64 1 5 () 8 const 64 1 6 () 3 const 64 1 7 () 64 "+ops+" ret 1 ()"), v, want)
}

// itself is the form of a value that is made of no others.
func itself(v int) api.Form { return form(0, uint64(v), 1) }

// P17.2: each kind

func TestOfWhatNoOperationDefines(t *testing.T) {
	checkOf(t, "", 1, itself(1))
	checkOf(t, "", 2, itself(2))
	loop := fn(t, "block jump 0 (1) block phi 64 9 (0 1) (1 9) phi 64 8 (0 1) (1 1) if 4 (1 2) block ret 9 ()")
	checkFn(t, loop, 9, itself(9))
	// Though it is the same by all ways.
	checkFn(t, loop, 8, itself(8))
	checkFn(t, fn(t, "block phi 64 9 () () ret 9 ()"), 9, itself(9))
}

func TestOfConst(t *testing.T) {
	checkOf(t, "", 5, form(8))
	checkOf(t, "const 64 1 9 () 0", 9, form(0))
	checkOf(t, "const 64 1 9 () 18446744073709551615", 9, form(top))
	checkOf(t, "const 64 1 1023 () 7", 1023, form(7))
}

func TestOfAdd(t *testing.T) {
	checkOf(t, "add 64 1 9 (1 5) 0", 9, form(8, 1, 1))
	checkOf(t, "add 64 1 9 (5 1) 0", 9, form(8, 1, 1))
	checkOf(t, "add 64 1 9 (1 1) 0", 9, form(0, 1, 2))
	checkOf(t, "add 64 1 9 (2 1) 0", 9, form(0, 1, 1, 2, 1))
	checkOf(t, "add 64 1 9 (5 6) 0", 9, form(11))
	checkOf(t, "add 64 1 9 (1 5) 0 add 64 1 10 (9 6) 0 add 64 1 11 (10 9) 0", 11, form(19, 1, 2))
	checkOf(t, "const 64 1 9 () 18446744073709551609 add 64 1 10 (9 5) 0", 10, form(1))
}

func TestOfSub(t *testing.T) {
	checkOf(t, "sub 64 1 9 (1 5) 0", 9, form(top-7, 1, 1))
	checkOf(t, "sub 64 1 9 (5 1) 0", 9, form(8, 1, top))
	checkOf(t, "sub 64 1 9 (1 1) 0", 9, form(0))
	checkOf(t, "sub 64 1 9 (1 2) 0", 9, form(0, 1, 1, 2, top))
	checkOf(t, "sub 64 1 9 (6 5) 0", 9, form(top-4))
	checkOf(t, "add 64 1 9 (1 5) 0 sub 64 1 10 (9 5) 0", 10, itself(1))
	checkOf(t, "add 64 1 9 (1 2) 0 sub 64 1 10 (9 1) 0", 10, itself(2))
}

func TestOfMul(t *testing.T) {
	checkOf(t, "mul 64 1 9 (1 5) 0", 9, form(0, 1, 8))
	checkOf(t, "mul 64 1 9 (5 1) 0", 9, form(0, 1, 8))
	checkOf(t, "mul 64 1 9 (5 6) 0", 9, form(24))
	checkOf(t, "add 64 1 9 (1 5) 0 sub 64 1 10 (9 2) 0 mul 64 1 11 (10 6) 0", 11, form(24, 1, 3, 2, top-2))
	checkOf(t, "const 64 1 9 () 0 mul 64 1 10 (1 9) 0", 10, form(0))
	// No constant, but a form without terms.
	checkOf(t, "sub 64 1 9 (1 1) 0 add 64 1 10 (9 6) 0 mul 64 1 11 (2 10) 0", 11, form(0, 2, 3))
	checkOf(t, "sub 64 1 9 (1 1) 0 mul 64 1 10 (9 2) 0", 10, form(0))
	// Both have terms.
	checkOf(t, "mul 64 1 9 (1 2) 0", 9, itself(9))
	checkOf(t, "mul 64 1 9 (1 1) 0 add 64 1 10 (9 1) 0", 10, form(0, 1, 1, 9, 1))
	// A term that comes to 0.
	checkOf(t, "const 64 1 9 () 9223372036854775808 mul 64 1 10 (1 9) 0 add 64 1 11 (10 2) 0 add 64 1 12 (11 5) 0 mul 64 1 13 (12 5) 0", 13, form(64, 2, 8))
}

func TestOfShl(t *testing.T) {
	checkOf(t, "shl 64 1 9 (1 6) 0", 9, form(0, 1, 8))
	checkOf(t, "const 64 1 9 () 0 shl 64 1 10 (1 9) 0", 10, itself(1))
	checkOf(t, "const 64 1 9 () 63 shl 64 1 10 (1 9) 0", 10, form(0, 1, mid))
	checkOf(t, "shl 64 1 9 (5 6) 0", 9, form(64))
	checkOf(t, "add 64 1 9 (1 5) 0 const 64 1 10 () 1 shl 64 1 11 (9 10) 0", 11, form(16, 1, 2))
	checkOf(t, "add 64 1 9 (1 1) 0 add 64 1 10 (9 2) 0 const 64 1 11 () 63 shl 64 1 12 (10 11) 0", 12, form(0, 2, mid))
	checkOf(t, "sub 64 1 9 (1 1) 0 add 64 1 10 (6 9) 0 shl 64 1 11 (2 10) 0", 11, form(0, 2, 8))
	// By 64 and more, though it comes to 0.
	checkOf(t, "shl 64 1 9 (1 7) 0", 9, itself(9))
	checkOf(t, "shl 64 1 9 (5 7) 0", 9, itself(9))
	checkOf(t, "const 64 1 9 () 65 shl 64 1 10 (1 9) 0", 10, itself(10))
	checkOf(t, "const 64 1 9 () 18446744073709551615 shl 64 1 10 (1 9) 0", 10, itself(10))
	// By what has terms.
	checkOf(t, "shl 64 1 9 (1 2) 0", 9, itself(9))
	checkOf(t, "shl 64 1 9 (5 1) 0", 9, itself(9))
}

// All other kinds that give 64 bits: by constants, too, and where what comes out
// is plain.
func TestOfOtherKinds(t *testing.T) {
	for _, op := range []string{
		"div 64 1 9 (1 5) 0", "div 64 1 9 (5 6) 0", "and 64 1 9 (1 1) 0", "and 64 1 9 (5 6) 0", "or 64 1 9 (1 2) 0", "or 64 1 9 (5 6) 0",
		"xor 64 1 9 (1 1) 0", "xor 64 1 9 (5 6) 0", "shr 64 1 9 (1 5) 0", "shr 64 1 9 (5 6) 0", "select 64 1 9 (4 1 1) 0", "select 64 1 9 (4 5 5) 0",
		"zext 64 1 9 (3) 8", "load 64 1 9 (1) 0", "pload 64 1 9 (4 1 2) 0", "pload 64 1 9 (4 5 5) 0", "pdiv 64 1 9 (4 1 2 5) 0",
		"pack 64 2 8 (1 5) 0 get 64 2 9 (8) 0", "pack 64 2 8 (1 5) 0 get 64 2 9 (8) 1", "const 64 2 8 () 5 get 64 2 9 (8) 0",
		"const 64 2 8 () 5 add 64 2 10 (8 8) 0 get 64 2 9 (10) 1",
	} {
		checkOf(t, op, 9, itself(9))
		checkOf(t, op+" add 64 1 11 (9 9) 0 add 64 1 12 (11 5) 0 sub 64 1 13 (12 1) 0", 13, form(8, 1, top, 9, 2))
	}
}

// P17.2: where values are defined

func TestOfValuesOfOtherBlocks(t *testing.T) {
	f := fn(t, `block add 64 1 9 (1 1) 0 jump 0 (2)
		block add 64 1 12 (11 9) 0 ret 12 ()
		block const 64 1 10 () 5 add 64 1 11 (9 10) 0 if 4 (1 3)
		block sub 64 1 13 (11 1) 0 ret 13 ()`)
	checkFn(t, f, 9, form(0, 1, 2))
	checkFn(t, f, 11, form(5, 1, 2))
	// It stands ahead of what it is made of.
	checkFn(t, f, 12, form(5, 1, 4))
	checkFn(t, f, 13, form(5, 1, 1))
}

func TestOfLoops(t *testing.T) {
	f := fn(t, `block const 64 1 8 () 4 jump 0 (1)
		block phi 64 9 (0 2) (1 12) mul 64 1 10 (9 8) 0 add 64 1 11 (10 2) 0 if 4 (2 3)
		block add 64 1 12 (9 8) 0 sub 64 1 13 (12 9) 0 jump 0 (1)
		block add 64 1 14 (11 9) 0 ret 14 ()`)
	checkFn(t, f, 11, form(0, 2, 1, 9, 4))
	checkFn(t, f, 12, form(4, 9, 1))
	checkFn(t, f, 13, form(4))
	checkFn(t, f, 14, form(0, 2, 1, 9, 5))
}

func TestOfFunctionsOfAllLevels(t *testing.T) {
	checkOf(t, "add 64 1 9 (1 5) 0 load 8 1 10 (9) 0", 9, form(8, 1, 1))
	checkOf(t, "add 64 1 9 (1 5) 0 pload 8 1 10 (4 9 3) 0 pstore 8 1 0 (4 9 10) 0", 9, form(8, 1, 1))
	checkOf(t, "add 64 1 9 (1 5) 0 load 8 16 10 (9) 0 add 8 16 11 (10 10) 0 store 8 16 0 (9 11) 0", 9, form(8, 1, 1))
}

// P17.2: the sixteen terms

// loads gives operations that define so many values by loads, from 101 on.
func loads(n int) string {
	var s strings.Builder
	for i := range n {
		fmt.Fprintf(&s, "load 64 1 %d (1) 0 ", 101+i)
	}
	return s.String()
}

// sum gives operations that define, from dst on, the sums of values up to each
// one, and that value which is the sum of all.
func sum(dst int, values ...int) (string, int) {
	var s strings.Builder
	whole := values[0]
	for _, v := range values[1:] {
		fmt.Fprintf(&s, "add 64 1 %d (%d %d) 0 ", dst, whole, v)
		whole = dst
		dst++
	}
	return s.String(), whole
}

// upTo are the values from the first to the last one.
func upTo(first, last int) []int {
	var list []int
	for v := first; v <= last; v++ {
		list = append(list, v)
	}
	return list
}

// each is the form of each of some values once.
func each(values ...int) api.Form {
	var x api.Form
	for _, v := range values {
		x.Terms = append(x.Terms, api.Term{V: v, Scale: 1})
	}
	return x
}

func TestSixteenTerms(t *testing.T) {
	a, whole := sum(201, upTo(101, 116)...)
	checkOf(t, loads(17)+a, whole, each(upTo(101, 116)...))
	checkOf(t, loads(17)+a+fmt.Sprintf("add 64 1 9 (%d 5) 0", whole), 9, affine.Plus(each(upTo(101, 116)...), form(8)))
	checkOf(t, loads(17)+a+fmt.Sprintf("add 64 1 9 (%d 110) 0", whole), 9, affine.Plus(each(upTo(101, 116)...), itself(110)))
	checkOf(t, loads(17)+a+fmt.Sprintf("mul 64 1 9 (6 %d) 0", whole), 9, affine.Times(each(upTo(101, 116)...), 3))
	// Two of eight each.
	b, first := sum(201, upTo(101, 108)...)
	c, second := sum(211, upTo(109, 116)...)
	checkOf(t, loads(17)+b+c+fmt.Sprintf("sub 64 1 9 (%d %d) 0", first, second), 9, affine.Minus(each(upTo(101, 108)...), each(upTo(109, 116)...)))
}

func TestMoreThanSixteenTerms(t *testing.T) {
	a, whole := sum(201, upTo(101, 116)...)
	for _, op := range []string{"add 64 1 9 (%d 117) 0 ", "add 64 1 9 (117 %d) 0 ", "sub 64 1 9 (%d 117) 0 ", "sub 64 1 9 (117 %d) 0 "} {
		ops := loads(17) + a + fmt.Sprintf(op, whole)
		checkOf(t, ops, 9, itself(9))
		// What is made of it is made of that value, though but sixteen would be left.
		checkOf(t, ops+"sub 64 1 10 (9 117) 0", 10, form(0, 9, 1, 117, top))
		checkOf(t, ops+"add 64 1 10 (9 9) 0", 10, form(0, 9, 2))
		checkOf(t, ops+"mul 64 1 10 (9 6) 0 add 64 1 11 (10 5) 0", 11, form(8, 9, 3))
	}
	// Two of sixteen each.
	b, other := sum(221, upTo(117, 132)...)
	checkOf(t, loads(32)+a+b+fmt.Sprintf("sub 64 1 9 (%d %d) 0", whole, other), 9, itself(9))
	// Seventeen values are in both, but of one nothing is left.
	c, rest := sum(221, upTo(102, 115)...)
	d := fmt.Sprintf("add 64 1 240 (%d 117) 0 sub 64 1 241 (240 101) 0 add 64 1 9 (%d 241) 0", rest, whole)
	checkOf(t, loads(17)+a+c+d, 9, affine.Plus(affine.Times(each(upTo(102, 115)...), 2), each(116, 117)))
}

// P17.2: None

func checkNone(t *testing.T, f api.Func, values ...int) {
	t.Helper()
	for _, v := range values {
		if x, e := affine.Of(f, v); e != api.None || len(x.Terms) > 0 || x.Off != 0 {
			t.Errorf("P17.2: Of(%v, %d): %v %v", f, v, x, e)
		}
	}
}

func TestNoneOfNoSuchValue(t *testing.T) {
	f := fn(t, "block const 64 1 9 () 5 store 64 1 0 (1 9) 0 ret 9 ()")
	checkNone(t, f, 0, -1, 5, 8, 10, 1023, 1024, math.MaxInt, math.MinInt)
	checkFn(t, f, 9, form(5))
}

func TestNoneOfOtherShapes(t *testing.T) {
	f := fn(t, `block const 64 2 9 () 5 const 32 1 10 () 5 const 16 1 11 () 5 const 8 1 12 () 5 const 1 1 13 () 1
		add 64 2 14 (9 9) 0 add 32 1 15 (10 10) 0 eq 64 1 16 (1 2) 0 trunc 32 1 17 (1) 64 pack 64 2 18 (1 2) 0 jump 0 (1)
		block phi 32 19 (0) (10) const 8 8 20 () 1 get 8 8 21 (20) 3 ult 64 1 22 (1 2) 0 slt 64 1 23 (1 2) 0 load 64 2 24 (1) 0 ret 1 ()`)
	checkNone(t, f, 3, 4)
	checkNone(t, f, upTo(9, 24)...)
}

func TestNoneOfFunctionsThatAreNotRight(t *testing.T) {
	right := fn(t, "block add 64 1 9 (1 2) 0 ret 9 ()")
	checkFn(t, right, 9, form(0, 1, 1, 2, 1))
	for _, x := range []struct {
		e    api.Code
		make func(f *api.Func)
	}{
		{api.Size, func(f *api.Func) { f.Blocks = nil }},
		{api.Size, func(f *api.Func) { f.Params = slices.Repeat([]int{64}, 17) }},
		{api.Size, func(f *api.Func) { f.Ret = -1 }},
		{api.Size, func(f *api.Func) { f.Blocks[0].Ops = slices.Repeat(f.Blocks[0].Ops, 600) }},
		{api.Shape, func(f *api.Func) { f.Blocks[0].End = api.End{Kind: api.Jump, To: []int{0}} }},
		{api.Shape, func(f *api.Func) { f.Blocks = append(f.Blocks, api.Block{End: api.End{Kind: api.Trap}}) }},
		{api.Typed, func(f *api.Func) { f.Ret = 7 }},
		{api.Typed, func(f *api.Func) { f.Blocks[0].Ops[0].Imm = 1 }},
		{api.Typed, func(f *api.Func) { f.Blocks[0].Ops[0].Args = []int{1} }},
		{api.Typed, func(f *api.Func) { f.Blocks[0].Ops[0].Args = nil }},
		{api.Typed, func(f *api.Func) { f.Blocks[0].Ops[0].Args[1] = 3 }},
		{api.Defined, func(f *api.Func) { f.Blocks[0].Ops[0].Args[1] = 9 }},
		{api.Defined, func(f *api.Func) { f.Blocks[0].Ops[0].Args[0] = 8 }},
		{api.Defined, func(f *api.Func) { f.Blocks[0].Ops = slices.Repeat(f.Blocks[0].Ops, 2) }},
		{api.Defined, func(f *api.Func) { f.Blocks[0].End.Arg = 10 }},
	} {
		f, e := code.Decode(code.Encode(right))
		if e != api.OK {
			t.Fatal(e)
		}
		x.make(&f)
		if e := check.Check(f, api.Lanes); e != x.e {
			t.Errorf("%v is %v, not %v", f, e, x.e)
		}
		checkNone(t, f, 1, 2, 9, 0)
	}
	checkNone(t, api.Func{}, 0, 1)
}

// P17.2: great functions

// Each is twice the one ahead of it: asked for again and again, the first one
// would be asked for more often than can be.
func TestOfManyOnTopOfOneAnother(t *testing.T) {
	f := fn(t, "block trap 0 ()")
	for v := 9; code.Size(f) < api.MaxOps; v++ {
		arg := v - 1
		if v == 9 {
			arg = 1
		}
		f.Blocks[0].Ops = append(f.Blocks[0].Ops, api.Op{Kind: api.Add, Bits: 64, Lanes: 1, Dst: v, Args: []int{arg, arg}})
	}
	checkFn(t, f, 9, form(0, 1, 2))
	checkFn(t, f, 8+63, form(0, 1, mid))
	checkFn(t, f, 8+64, form(0))
	checkFn(t, f, 8+511, form(0))
	// The same of sums that are but once a value, as a product is.
	for i := range f.Blocks[0].Ops {
		if i%2 == 1 {
			f.Blocks[0].Ops[i].Kind = api.Mul
		}
	}
	checkFn(t, f, 8+10, itself(18))
	checkFn(t, f, 8+511, form(0, 8+510, 2))
}
