package alias_test

import (
	"fmt"
	"slices"
	"strings"
	"testing"

	"lockstep/alias"
	"lockstep/api"
	"lockstep/check"
	"lockstep/code"
)

const (
	mid = 1 << 63
	top = 1<<64 - 1
)

// checkPair checks what is told of two touches that have a distance.
func checkPair(t *testing.T, f api.Func, block, a, b int, distance uint64, apart, follows bool) {
	t.Helper()
	if d, is := alias.Distance(f, block, a, b); d != distance || !is {
		t.Errorf("P18.2: Distance(%v, %d, %d, %d): %v %v, not %v", printed(f), block, a, b, d, is, distance)
	}
	if is := alias.Apart(f, block, a, b); is != apart {
		t.Errorf("P18.2: Apart(%v, %d, %d, %d): %v", printed(f), block, a, b, is)
	}
	if is := alias.Follows(f, block, a, b); is != follows {
		t.Errorf("P18.2: Follows(%v, %d, %d, %d): %v", printed(f), block, a, b, is)
	}
}

// checkNoPair checks that two have no distance, either way.
func checkNoPair(t *testing.T, f api.Func, block, a, b int) {
	t.Helper()
	for _, x := range [][2]int{{a, b}, {b, a}} {
		d, is := alias.Distance(f, block, x[0], x[1])
		if d != 0 || is || alias.Apart(f, block, x[0], x[1]) || alias.Follows(f, block, x[0], x[1]) {
			t.Errorf("P18.2: %v: %d, %d of block %d have a distance: %v %v", printed(f), x[0], x[1], block, d, is)
		}
	}
}

// two gives a function of two touches: a load of so many bytes at p, and one at p
// plus some number. Their places are 2 and 3.
func two(t *testing.T, first int, number uint64, second int) api.Func {
	t.Helper()
	shape := map[int]string{1: "8 1", 2: "16 1", 4: "16 2", 8: "64 1", 16: "8 16"}
	return one(t, fmt.Sprintf("const 64 1 9 () %d add 64 1 10 (1 9) 0 load %s 11 (1) 0 load %s 12 (10) 0", number, shape[first], shape[second]))
}

// P18.2

func TestExample(t *testing.T) {
	f := one(t, "const 64 1 9 () 4 add 64 1 10 (1 9) 0 load 32 1 11 (1) 0 load 32 1 12 (10) 0")
	checkPair(t, f, 0, 2, 3, 4, true, true)
	checkPair(t, f, 0, 3, 2, top-3, true, false)
}

// Each length of both, at all the distances at which something changes.
func TestAllEdges(t *testing.T) {
	for _, first := range []uint64{1, 2, 4, 8, 16} {
		for _, second := range []uint64{1, 2, 4, 8, 16} {
			for _, x := range []struct {
				distance       uint64
				apart, follows bool
			}{
				{0, false, false},
				{1, first == 1, first == 1},
				{first - 1, false, false},
				{first, true, true},
				{first + 1, true, false},
				{-second + 1, false, false},
				{-second, true, false},
				{-second - 1, true, false},
				{top, second == 1, false},
				{mid - 1, true, false}, {mid, true, false}, {mid + 1, true, false},
			} {
				f := two(t, int(first), x.distance, int(second))
				checkPair(t, f, 0, 2, 3, x.distance, x.apart, x.follows)
				checkPair(t, f, 0, 3, 2, -x.distance, x.apart, -x.distance == second)
			}
		}
	}
}

// What was touched, by which kind, is all the same.
func TestPairsOfAllKinds(t *testing.T) {
	f := one(t, `const 64 1 9 () 1 add 64 1 10 (1 9) 0
		load 8 1 11 (1) 0 store 8 1 0 (1 3) 0 pload 8 1 12 (4 1 3) 0 pstore 8 1 0 (4 1 3) 0
		load 8 1 13 (10) 0 store 8 1 0 (10 3) 0 pload 8 1 14 (4 10 3) 0 pstore 8 1 0 (4 10 3) 0`)
	for a := 2; a < 10; a++ {
		for b := 2; b < 10; b++ {
			switch {
			case a < 6 && b >= 6:
				checkPair(t, f, 0, a, b, 1, true, true)
			case a >= 6 && b < 6:
				checkPair(t, f, 0, a, b, top, true, false)
			default:
				checkPair(t, f, 0, a, b, 0, false, false)
			}
		}
	}
}

// One touch is at no distance from itself.
func TestOneTouchTwice(t *testing.T) {
	f := one(t, "load 64 1 9 (1) 0 load 8 1 10 (9) 0 pstore 8 1 0 (4 2 10) 0")
	for at := range 3 {
		checkPair(t, f, 0, at, at, 0, false, false)
	}
}

func TestTheSamePlaceOtherwise(t *testing.T) {
	f := one(t, `const 64 1 9 () 8 add 64 1 10 (1 9) 0 sub 64 1 11 (10 9) 0 add 64 1 12 (9 1) 0
		load 16 1 13 (1) 0 load 16 1 14 (10) 0 load 16 1 15 (11) 0 load 16 1 16 (12) 0`)
	checkPair(t, f, 0, 4, 6, 0, false, false)
	checkPair(t, f, 0, 5, 7, 0, false, false)
	checkPair(t, f, 0, 6, 7, 8, true, false)
	checkPair(t, f, 0, 5, 4, top-7, true, false)
}

func TestPlacesOfMoreTerms(t *testing.T) {
	f := one(t, `const 64 1 9 () 3 const 64 1 10 () 1 shl 64 1 11 (2 9) 0 add 64 1 12 (1 11) 0
		add 64 1 13 (2 10) 0 shl 64 1 14 (13 9) 0 add 64 1 15 (14 1) 0
		load 64 1 16 (12) 0 load 64 1 17 (15) 0 load 64 1 18 (11) 0 load 64 1 19 (14) 0 load 64 1 20 (1) 0 load 64 1 21 (2) 0`)
	// p + 8 q, and p + 8 (q + 1).
	checkPair(t, f, 0, 7, 8, 8, true, true)
	checkPair(t, f, 0, 9, 10, 8, true, true)
	for _, x := range [][2]int{{7, 9}, {7, 11}, {7, 12}, {9, 12}, {9, 11}, {8, 10}, {11, 12}} {
		checkNoPair(t, f, 0, x[0], x[1])
	}
}

func TestOtherScales(t *testing.T) {
	f := one(t, `add 64 1 9 (1 1) 0 add 64 1 10 (9 1) 0 sub 64 1 11 (2 1) 0 sub 64 1 12 (1 2) 0 sub 64 1 13 (9 1) 0
		load 8 1 20 (1) 0 load 8 1 21 (9) 0 load 8 1 22 (10) 0 load 8 1 23 (11) 0 load 8 1 24 (12) 0 load 8 1 25 (13) 0`)
	for a := 5; a < 10; a++ {
		for b := a + 1; b < 10; b++ {
			checkNoPair(t, f, 0, a, b)
		}
	}
	checkPair(t, f, 0, 5, 10, 0, false, false)
}

// Places that are plain numbers have the same terms, none.
func TestPlainPlaces(t *testing.T) {
	f := one(t, `const 64 1 9 () 100 const 64 1 10 () 18446744073709551608 sub 64 1 11 (1 1) 0
		load 32 1 12 (9) 0 load 64 1 13 (10) 0 load 8 1 14 (11) 0 load 8 1 15 (1) 0`)
	checkPair(t, f, 0, 3, 4, top-107, true, false)
	checkPair(t, f, 0, 4, 3, 108, true, false)
	checkPair(t, f, 0, 3, 5, top-99, true, false)
	// The last bytes that there are, and the first one behind them.
	checkPair(t, f, 0, 4, 5, 8, true, true)
	for at := 3; at < 6; at++ {
		checkNoPair(t, f, 0, at, 6)
	}
}

// What isn't a sum is a term of its own.
func TestPlacesThatAreNoSums(t *testing.T) {
	f := one(t, `load 64 1 9 (1) 0 load 64 1 10 (1) 0 const 64 1 11 () 2 add 64 1 12 (9 11) 0
		load 16 1 13 (9) 0 load 16 1 14 (10) 0 load 16 1 15 (12) 0 xor 64 1 16 (1 2) 0 xor 64 1 17 (1 2) 0 load 8 1 18 (16) 0 load 8 1 19 (17) 0`)
	checkPair(t, f, 0, 4, 6, 2, true, true)
	checkNoPair(t, f, 0, 4, 5)
	checkNoPair(t, f, 0, 5, 6)
	checkNoPair(t, f, 0, 9, 10)
	checkPair(t, f, 0, 9, 9, 0, false, false)
}

// summed gives operations that define the sum of so many values, from 101 on,
// as 300, and the touches of 300, and of 300 and 8.
func summed(n int) string {
	var s strings.Builder
	for i := range n {
		fmt.Fprintf(&s, "load 64 1 %d (1) 0 ", 101+i)
	}
	whole := 101
	for i := 1; i < n; i++ {
		dst := 200 + i
		if i == n-1 {
			dst = 300
		}
		fmt.Fprintf(&s, "add 64 1 %d (%d %d) 0 ", dst, whole, 101+i)
		whole = dst
	}
	return s.String() + "const 64 1 301 () 8 add 64 1 302 (300 301) 0 sub 64 1 303 (302 101) 0 add 64 1 304 (303 101) 0 "
}

func TestSixteenTerms(t *testing.T) {
	touches := "load 64 1 401 (300) 0 load 64 1 402 (302) 0 load 64 1 403 (304) 0"
	f := one(t, summed(16)+touches)
	at := len(f.Blocks[0].Ops) - 3
	checkPair(t, f, 0, at, at+1, 8, true, true)
	checkPair(t, f, 0, at, at+2, 8, true, true)
	checkPair(t, f, 0, at+1, at+2, 0, false, false)
	// The sum is a term itself; what is less one value and more of it again, too.
	f = one(t, summed(17)+touches)
	at = len(f.Blocks[0].Ops) - 3
	checkPair(t, f, 0, at, at+1, 8, true, true)
	checkPair(t, f, 0, at, at+2, 8, true, true)
}

func TestPairsOfOtherBlocks(t *testing.T) {
	f := fn(t, `block const 64 1 9 () 8 load 8 1 19 (1) 0 jump 0 (1)
		block phi 64 10 (0 1) (1 11) phi 64 12 (0 1) (2 10) add 64 1 11 (10 9) 0
		store 64 1 0 (10 11) 0 store 64 1 0 (11 10) 0 load 8 1 13 (12) 0 pload 8 1 14 (4 1 3) 0 if 4 (1 2)
		block load 8 1 15 (11) 0 load 64 1 16 (10) 0 store 8 1 0 (12 3) 0 ret 15 ()`)
	checkPair(t, f, 1, 1, 2, 8, true, true)
	// A phi is a term of its own, whatever it is made of.
	checkNoPair(t, f, 1, 1, 3)
	checkNoPair(t, f, 1, 2, 3)
	checkNoPair(t, f, 1, 1, 4)
	checkPair(t, f, 2, 1, 0, 8, true, true)
	checkPair(t, f, 2, 0, 1, top-7, true, false)
	checkNoPair(t, f, 2, 0, 2)
	// There is no such touch in that block.
	checkNoPair(t, f, 0, 1, 2)
	checkNoPair(t, f, 1, 0, 1)
}

func TestNoSuchPair(t *testing.T) {
	f := one(t, "load 8 1 9 (1) 0 add 64 1 10 (1 2) 0 store 8 1 0 (1 9) 0")
	checkPair(t, f, 0, 0, 2, 0, false, false)
	checkNoPair(t, f, 0, 0, 1)
	checkNoPair(t, f, 0, 1, 2)
	checkNoPair(t, f, 0, 1, 1)
	for _, n := range append([]int{3}, far...) {
		checkNoPair(t, f, 0, 0, n)
		checkNoPair(t, f, 0, n, n)
		checkNoPair(t, f, n, 0, 2)
	}
	checkNoPair(t, f, 1, 0, 2)
}

// P18.1, P18.2: what isn't right

// checkNothing checks that nothing is told of a block.
func checkNothing(t *testing.T, f api.Func, block int) {
	t.Helper()
	checkTouches(t, f, block)
	for a := -1; a < 4; a++ {
		checkNoTouch(t, f, block, a)
		for b := -1; b < 4; b++ {
			checkNoPair(t, f, block, a, b)
		}
	}
}

func TestFunctionsThatAreNotRight(t *testing.T) {
	right := fn(t, "block load 8 1 9 (1) 0 store 8 1 0 (1 9) 0 pload 8 1 10 (4 1 3) 0 pstore 8 1 0 (4 1 10) 0 ret 9 ()")
	checkTouches(t, right, 0, 0, 1, 2, 3)
	ops := func(f *api.Func) []api.Op { return f.Blocks[0].Ops }
	for _, x := range []struct {
		e    api.Code
		make func(f *api.Func)
	}{
		{api.Size, func(f *api.Func) { f.Blocks = nil }},
		{api.Size, func(f *api.Func) { f.Params = slices.Repeat([]int{64}, 17) }},
		{api.Size, func(f *api.Func) { f.Ret = -1 }},
		{api.Size, func(f *api.Func) { f.Blocks[0].Ops = slices.Repeat(ops(f), 200) }},
		{api.Size, func(f *api.Func) { ops(f)[0].Args[0] = -1 }},
		{api.Shape, func(f *api.Func) { f.Blocks[0].End = api.End{Kind: api.Jump, To: []int{0}} }},
		{api.Shape, func(f *api.Func) { f.Blocks = append(f.Blocks, api.Block{End: api.End{Kind: api.Trap}}) }},
		{api.Typed, func(f *api.Func) { f.Ret = 7 }},
		{api.Typed, func(f *api.Func) { ops(f)[1].Imm = 1 }},
		{api.Typed, func(f *api.Func) { ops(f)[1].Bits = 1 }},
		{api.Typed, func(f *api.Func) { ops(f)[1].Args = nil }},
		{api.Typed, func(f *api.Func) { ops(f)[0].Args = nil }},
		{api.Typed, func(f *api.Func) { ops(f)[2].Args = nil }},
		{api.Typed, func(f *api.Func) { ops(f)[2].Args = []int{4} }},
		{api.Typed, func(f *api.Func) { ops(f)[3].Args = []int{4, 1} }},
		{api.Typed, func(f *api.Func) { ops(f)[3].Lanes = 2 }},
		{api.Typed, func(f *api.Func) { ops(f)[0].Args[0] = 3 }},
		{api.Defined, func(f *api.Func) { ops(f)[0].Args[0] = 8 }},
		{api.Defined, func(f *api.Func) { ops(f)[2].Dst = 9 }},
		{api.Defined, func(f *api.Func) { ops(f)[0].Dst = 1 }},
		{api.Defined, func(f *api.Func) { f.Blocks[0].End.Arg = 11 }},
	} {
		f, e := code.Decode(code.Encode(right))
		if e != api.OK {
			t.Fatal(e)
		}
		x.make(&f)
		if e := check.Check(f, api.Lanes); e != x.e {
			t.Errorf("%v is %v, not %v", f, e, x.e)
		}
		checkNothing(t, f, 0)
		checkNothing(t, f, 1)
	}
	checkNothing(t, api.Func{}, 0)
}
