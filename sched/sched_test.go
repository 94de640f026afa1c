package sched_test

import (
	"math"
	"slices"
	"strings"
	"testing"

	"lockstep/api"
	"lockstep/check"
	"lockstep/sched"
	"lockstep/text"
)

// fn parses a function's text: a condition 1, a byte 2, an address 3 and another
// condition 4 are its parameters.
func fn(t *testing.T, blocks string) api.Func {
	t.Helper()
	f, e := text.Parse("func (1 8 64 1) 8 " + strings.Join(strings.Fields(blocks), " "))
	if e != api.OK {
		t.Fatalf("%q: %v", blocks, e)
	}
	if e := check.Check(f, api.Lanes); e != api.OK {
		t.Fatalf("%q isn't right: %v", blocks, e)
	}
	return f
}

// one parses a function of one block, by its operations.
func one(t *testing.T, ops string) api.Func {
	t.Helper()
	return fn(t, "block "+ops+" ret 2 ()")
}

func printed(f api.Func) string {
	s, _ := text.Print(f)
	return s
}

// checkHangs checks on which ones each operation of a block hangs.
func checkHangs(t *testing.T, f api.Func, block int, want ...[]int) {
	t.Helper()
	if len(f.Blocks[block].Ops) != len(want) {
		t.Fatalf("%v has other operations", printed(f))
	}
	for at, list := range want {
		if l := sched.Hangs(f, block, at); !slices.Equal(l, list) {
			t.Errorf("P19.1: Hangs(%v, %d, %d): %v, not %v", printed(f), block, at, l, list)
		}
	}
}

func checkDepth(t *testing.T, f api.Func, block int, want ...int) {
	t.Helper()
	if list := sched.Depth(f, block); !slices.Equal(list, want) {
		t.Errorf("P19.1: Depth(%v, %d): %v, not %v", printed(f), block, list, want)
	}
}

// checkNothing checks that nothing is told of a block.
func checkNothing(t *testing.T, f api.Func, block int) {
	t.Helper()
	for _, at := range append([]int{0, 1}, far...) {
		if list := sched.Hangs(f, block, at); len(list) > 0 {
			t.Errorf("P19.1: Hangs(%v, %d, %d): %v", f, block, at, list)
		}
	}
	if list := sched.Depth(f, block); len(list) > 0 {
		t.Errorf("P19.1: Depth(%v, %d): %v", f, block, list)
	}
	if list := sched.Flat(f, block); len(list) > 0 {
		t.Errorf("P19.2: Flat(%v, %d): %v", f, block, list)
	}
	for n := range 7 {
		checkLegal(t, f, block, places(n), false)
	}
}

// far are places, and blocks, that no function has.
var far = []int{-1, -2, 64, 512, 1 << 32, -1 << 32, math.MaxInt, math.MinInt}

// P19.1

// What touches memory, or may trap, hangs on all of these ahead of it, whatever
// it uses; nothing else does.
func TestAllKinds(t *testing.T) {
	f := one(t, `load 8 1 9 (3) 0 const 64 1 10 () 5
		add 64 1 11 (3 3) 0 sub 64 1 12 (3 3) 0 mul 64 1 13 (3 3) 0 div 64 1 14 (3 3) 0 and 64 1 15 (3 3) 0 or 64 1 16 (3 3) 0
		xor 64 1 17 (3 3) 0 shl 64 1 18 (3 3) 0 shr 64 1 19 (3 3) 0 eq 64 1 20 (3 3) 0 ult 64 1 21 (3 3) 0 slt 64 1 22 (3 3) 0
		select 64 1 23 (1 3 3) 0 zext 64 1 24 (2) 8 trunc 8 1 25 (3) 64 load 8 1 26 (3) 0 store 8 1 0 (3 2) 0
		pload 8 1 27 (1 3 2) 0 pstore 8 1 0 (1 3 2) 0 pdiv 8 1 28 (1 2 2 2) 0 pack 8 2 29 (2 2) 0 get 8 2 30 (29) 1
		load 8 16 31 (3) 0 store 8 2 0 (3 29) 0 add 8 16 32 (31 31) 0 div 8 1 33 (2 2) 0`)
	checkHangs(t, f, 0, nil, nil,
		nil, nil, nil, []int{0}, nil, nil,
		nil, nil, nil, nil, nil, nil,
		nil, nil, nil, []int{0, 5}, []int{0, 5, 17},
		[]int{0, 5, 17, 18}, []int{0, 5, 17, 18, 19}, []int{0, 5, 17, 18, 19, 20}, nil, []int{22},
		[]int{0, 5, 17, 18, 19, 20, 21}, []int{0, 5, 17, 18, 19, 20, 21, 22, 24}, []int{24}, []int{0, 5, 17, 18, 19, 20, 21, 24, 25})
	checkDepth(t, f, 0, 0, 0,
		0, 0, 0, 1, 0, 0,
		0, 0, 0, 0, 0, 0,
		0, 0, 0, 2, 3,
		4, 5, 6, 0, 1,
		7, 8, 8, 9)
}

// Each argument counts, of each kind.
func TestAllArguments(t *testing.T) {
	f := one(t, `const 8 1 9 () 1 const 8 1 10 () 2 const 8 1 11 () 3 const 64 1 12 () 4 const 1 1 13 () 1
		add 8 1 14 (10 11) 0 sub 8 1 15 (11 9) 0 select 8 1 16 (13 10 9) 0 zext 64 1 17 (11) 8 trunc 8 1 18 (12) 64
		slt 8 1 19 (11 14) 0 pack 8 4 20 (18 9 11 16) 0 get 8 4 21 (20) 3 add 8 4 22 (20 20) 0`)
	checkHangs(t, f, 0, nil, nil, nil, nil, nil,
		[]int{1, 2}, []int{0, 2}, []int{0, 1, 4}, []int{2}, []int{3},
		[]int{2, 5}, []int{0, 2, 7, 9}, []int{11}, []int{11})
	checkDepth(t, f, 0, 0, 0, 0, 0, 0, 1, 1, 1, 1, 1, 2, 2, 3, 3)
	f = one(t, `const 8 1 9 () 1 const 8 1 10 () 2 const 8 1 11 () 3 const 64 1 12 () 4 const 1 1 13 () 1 pack 8 2 14 (9 9) 0
		div 8 1 15 (10 9) 0 load 8 1 16 (12) 0 store 8 2 0 (12 14) 0 pload 8 1 17 (13 12 11) 0 pstore 8 1 0 (13 12 17) 0 pdiv 8 1 18 (13 11 9 10) 0`)
	checkHangs(t, f, 0, nil, nil, nil, nil, nil, []int{0},
		[]int{0, 1}, []int{3, 6}, []int{3, 5, 6, 7}, []int{2, 3, 4, 6, 7, 8}, []int{3, 4, 6, 7, 8, 9}, []int{0, 1, 2, 4, 6, 7, 8, 9, 10})
	checkDepth(t, f, 0, 0, 0, 0, 0, 0, 1, 1, 2, 3, 4, 5, 6)
	// As many as there may be.
	f = one(t, `const 8 1 9 () 1 pack 8 16 10 (2 2 2 2 2 2 2 2 2 2 2 2 2 2 2 9) 0 store 8 16 0 (3 10) 0`)
	checkHangs(t, f, 0, nil, []int{0}, []int{1})
	checkDepth(t, f, 0, 0, 1, 2)
}

// What is defined by parameters, by phis or in other blocks is no operation of
// the block; and what is used of an operation that used others doesn't count.
func TestOtherBlocks(t *testing.T) {
	f := fn(t, `block const 8 1 9 () 7 store 8 1 0 (3 9) 0 add 8 1 20 (9 9) 0 jump 0 (1)
		block phi 8 10 (0 2) (9 12) phi 64 11 (0 2) (3 3) add 8 1 13 (10 9) 0 load 8 1 14 (11) 0 add 8 1 15 (13 14) 0 if 4 (2 3)
		block load 8 1 12 (11) 0 add 8 1 16 (15 14) 0 store 8 1 0 (11 16) 0 jump 0 (1)
		block ret 13 ()`)
	checkHangs(t, f, 0, nil, []int{0}, []int{0})
	checkHangs(t, f, 1, nil, nil, []int{0, 1})
	checkHangs(t, f, 2, nil, nil, []int{0, 1})
	checkHangs(t, f, 3)
	checkDepth(t, f, 0, 0, 1, 1)
	checkDepth(t, f, 1, 0, 0, 1)
	checkDepth(t, f, 2, 0, 0, 1)
	checkDepth(t, f, 3)
	// A block that goes on at itself: what comes by its phis isn't earlier there.
	f = fn(t, `block jump 0 (1) block phi 8 9 (0 1) (2 11) add 8 1 10 (9 9) 0 add 8 1 11 (10 2) 0 if 1 (1 2) block ret 11 ()`)
	checkHangs(t, f, 1, nil, []int{0})
	checkDepth(t, f, 1, 0, 1)
}

func TestDepth(t *testing.T) {
	// The greatest counts, whichever argument it is.
	f := one(t, `const 8 1 9 () 1 add 8 1 10 (9 2) 0 add 8 1 11 (10 9) 0 add 8 1 12 (9 11) 0 add 8 1 13 (12 10) 0 add 8 1 14 (2 10) 0 add 8 1 15 (2 2) 0`)
	checkHangs(t, f, 0, nil, []int{0}, []int{0, 1}, []int{0, 2}, []int{1, 3}, []int{1}, nil)
	checkDepth(t, f, 0, 0, 1, 2, 3, 4, 2, 0)
	// It needn't be the last one.
	f = one(t, `const 8 1 9 () 1 add 8 1 10 (9 9) 0 add 8 1 11 (10 10) 0 const 8 1 12 () 1 add 8 1 13 (11 12) 0 add 8 1 14 (12 9) 0 sub 8 1 15 (14 11) 0`)
	checkHangs(t, f, 0, nil, []int{0}, []int{1}, nil, []int{2, 3}, []int{0, 3}, []int{2, 5})
	checkDepth(t, f, 0, 0, 1, 2, 0, 3, 1, 3)
	// What isn't pure is deep by what others of these use, too.
	f = one(t, `add 8 1 9 (2 2) 0 add 8 1 10 (9 9) 0 div 8 1 11 (10 2) 0 add 8 1 12 (11 11) 0 load 8 1 13 (3) 0`)
	checkHangs(t, f, 0, nil, []int{0}, []int{1}, []int{2}, []int{2})
	checkDepth(t, f, 0, 0, 1, 2, 3, 3)
}

func TestNoSuchPlace(t *testing.T) {
	f := fn(t, "block add 8 1 9 (2 2) 0 store 8 1 0 (3 9) 0 jump 0 (1) block load 8 1 10 (3) 0 div 8 1 11 (10 9) 0 add 8 1 12 (11 11) 0 ret 2 ()")
	for _, at := range append([]int{2}, far...) {
		if list := sched.Hangs(f, 0, at); len(list) > 0 {
			t.Errorf("P19.1: Hangs(%v, 0, %d): %v", printed(f), at, list)
		}
	}
	for _, at := range append([]int{3}, far...) {
		if list := sched.Hangs(f, 1, at); len(list) > 0 {
			t.Errorf("P19.1: Hangs(%v, 1, %d): %v", printed(f), at, list)
		}
	}
	for _, block := range append([]int{2}, far...) {
		checkNothing(t, f, block)
	}
}

// wrong are functions that aren't right, each by another code, of a block of two
// operations.
func wrong() map[api.Code]api.Func {
	right := func() api.Func {
		return api.Func{Params: []int{8, 64}, Ret: 8, Blocks: []api.Block{{Ops: []api.Op{
			{Kind: api.Add, Bits: 8, Lanes: 1, Dst: 3, Args: []int{1, 1}},
			{Kind: api.Store, Bits: 8, Lanes: 1, Args: []int{2, 3}},
		}, End: api.End{Kind: api.Ret, Arg: 3}}}}
	}
	size, shape, typed, defined := right(), right(), right(), right()
	size.Params = slices.Repeat([]int{8}, api.MaxParams+1)
	shape.Blocks = append(shape.Blocks, api.Block{End: api.End{Kind: api.Trap}})
	typed.Blocks[0].Ops[0].Bits = 9
	defined.Blocks[0].Ops[0].Args[1] = 4
	return map[api.Code]api.Func{api.OK: right(), api.Size: size, api.Shape: shape, api.Typed: typed, api.Defined: defined}
}

func TestFunctionsThatAreNotRight(t *testing.T) {
	for e, f := range wrong() {
		if c := check.Check(f, api.Lanes); c != e {
			t.Fatalf("%v: %v, not %v", f, c, e)
		}
		if e == api.OK {
			checkHangs(t, f, 0, nil, []int{0})
			checkDepth(t, f, 0, 0, 1)
			checkFlat(t, f, 0, 0, 1)
			continue
		}
		for block := range f.Blocks {
			checkNothing(t, f, block)
		}
		checkNothing(t, f, -1)
	}
	checkNothing(t, api.Func{}, 0)
}

// What is right at level Lanes alone is enough.
func TestAllLevels(t *testing.T) {
	for level, ops := range []string{
		"add 8 1 9 (2 2) 0 store 8 1 0 (3 9) 0",
		"add 8 1 9 (2 2) 0 pstore 8 1 0 (1 3 9) 0",
		"pack 8 2 9 (2 2) 0 store 8 2 0 (3 9) 0",
	} {
		f := one(t, ops)
		if level > 0 && check.Check(f, level-1) == api.OK {
			t.Fatalf("%v is right at a lower level", ops)
		}
		checkHangs(t, f, 0, nil, []int{0})
		checkDepth(t, f, 0, 0, 1)
	}
}

// As many operations as there may be.
func TestGreatBlocks(t *testing.T) {
	const n = api.MaxOps - 1
	f := one(t, "")
	for range n {
		f.Blocks[0].Ops = append(f.Blocks[0].Ops, api.Op{Kind: api.Store, Bits: 8, Lanes: 1, Args: []int{3, 2}})
	}
	all := places(n)
	for at := range n {
		if list := sched.Hangs(f, 0, at); at%50 == 10 && !slices.Equal(list, all[:at]) {
			t.Errorf("P19.1: Hangs(.., 0, %d): %v", at, list)
		}
	}
	checkDepth(t, f, 0, all...)
	checkFlat(t, f, 0, all...)
	checkLegal(t, f, 0, all, true)
	turned := slices.Clone(all)
	slices.Reverse(turned)
	checkLegal(t, f, 0, turned, false)
	for i := range f.Blocks[0].Ops {
		f.Blocks[0].Ops[i] = api.Op{Kind: api.Add, Bits: 8, Lanes: 1, Dst: 10 + i, Args: []int{2, 2}}
	}
	checkDepth(t, f, 0, make([]int, n)...)
	checkFlat(t, f, 0, all...)
	checkLegal(t, f, 0, turned, true)
	f.Blocks[0].Ops = append(f.Blocks[0].Ops, api.Op{Kind: api.Add, Bits: 8, Lanes: 1, Dst: 9, Args: []int{2, 2}})
	checkNothing(t, f, 0)
	checkLegal(t, f, 0, places(api.MaxOps), false)
}
