package tidy_test

import (
	"slices"
	"testing"

	"lockstep/api"
	"lockstep/code"
	"lockstep/tidy"
)

// pures are operations of each pure kind; 20 and 21 are values of many lanes.
var pures = []string{
	"const 8 1 5 () 9 ", "const 16 8 5 () 9 ", "add 8 1 5 (2 2) 0 ", "add 8 4 5 (20 21) 0 ", "sub 8 1 5 (2 2) 0 ", "mul 64 1 5 (3 3) 0 ", "and 1 1 5 (1 4) 0 ", "or 8 4 5 (20 20) 0 ", "xor 8 1 5 (2 2) 0 ",
	"shl 8 1 5 (2 2) 0 ", "shr 8 4 5 (21 20) 0 ", "eq 8 1 5 (2 2) 0 ", "ult 64 1 5 (3 3) 0 ", "slt 8 1 5 (2 2) 0 ", "select 8 1 5 (1 2 2) 0 ", "select 8 4 5 (1 20 21) 0 ", "zext 64 1 5 (2) 8 ", "trunc 8 1 5 (3) 64 ",
	"pack 8 2 5 (2 2) 0 ", "get 8 4 5 (21) 3 ",
}

// heavy are operations of each kind that isn't pure.
var heavy = []string{
	"div 8 1 5 (2 2) 0 ", "load 8 1 5 (3) 0 ", "load 8 4 5 (3) 0 ", "store 8 1 0 (3 2) 0 ", "store 8 4 0 (3 20) 0 ", "pload 8 1 5 (1 3 2) 0 ", "pstore 8 1 0 (1 3 2) 0 ", "pdiv 8 1 5 (1 2 2 2) 0 ",
}

// P16.1: Dead

func TestPureOnes(t *testing.T) {
	for _, op := range pures {
		// Both are used by a Store, which stays.
		const wide = "const 8 4 20 () 1 const 8 4 21 () 2 store 8 4 0 (3 20) 0 store 8 4 0 (3 21) 0 "
		checkDead(t, "block "+wide+op+"ret 2 ()", "block "+wide+"ret 2 ()")
		checkDead(t, "block "+wide+"jump 0 (1) block "+op+"trap 0 ()", "block "+wide+"jump 0 (1) block trap 0 ()")
	}
}

func TestOnesThatTouchOrTrap(t *testing.T) {
	for _, op := range heavy {
		f := "block const 8 4 20 () 1 store 8 4 0 (3 20) 0 " + op + "ret 2 ()"
		checkDead(t, f, f)
		checkAll(t, f, f)
		// What they use stays, too.
		f = "block const 8 4 20 () 1 store 8 4 0 (3 20) 0 jump 0 (1) block " + op + "trap 0 ()"
		checkDead(t, f, f)
	}
	checkDead(t, "block const 64 1 6 () 8 const 8 1 7 () 7 const 8 1 8 () 6 load 8 1 9 (6) 0 div 8 1 10 (9 7) 0 add 8 1 11 (10 8) 0 ret 2 ()",
		"block const 64 1 6 () 8 const 8 1 7 () 7 load 8 1 9 (6) 0 div 8 1 10 (9 7) 0 ret 2 ()")
}

func TestUsedOnesStay(t *testing.T) {
	for _, f := range []string{
		"block const 8 1 5 () 9 ret 5 ()",
		"block const 1 1 5 () 1 if 5 (1 2) block ret 2 () block trap 0 ()",
		"block const 8 1 5 () 9 const 64 1 6 () 3 store 8 1 0 (6 5) 0 ret 2 ()",
		"block const 1 1 5 () 1 const 64 1 6 () 3 const 8 1 7 () 3 pload 8 1 8 (5 6 7) 0 trap 0 ()",
		"block if 1 (1 2) block const 8 1 5 () 9 jump 0 (2) block phi 8 6 (0 1) (2 5) ret 6 ()",
		"block const 8 1 5 () 9 if 1 (1 2) block ret 2 () block jump 0 (3) block ret 5 ()",
		"block phi 8 5 () () ret 5 ()",
		// The last of a chain is used, and so all are.
		"block const 8 1 5 () 9 add 8 1 6 (5 5) 0 sub 8 1 7 (6 5) 0 zext 64 1 8 (7) 8 load 8 1 9 (8) 0 trap 0 ()",
		"block const 8 1 5 () 9 pack 8 2 6 (5 2) 0 add 8 2 7 (6 6) 0 get 8 2 8 (7) 1 ret 8 ()",
	} {
		checkDead(t, f, f)
	}
}

func TestAgainAndAgain(t *testing.T) {
	checkDead(t, "block const 8 1 5 () 9 add 8 1 6 (5 5) 0 sub 8 1 7 (6 5) 0 mul 8 1 8 (7 6) 0 ret 2 ()", "block ret 2 ()")
	checkDead(t, "block const 8 1 5 () 9 pack 8 2 6 (5 2) 0 add 8 2 7 (6 6) 0 get 8 2 8 (7) 1 ret 5 ()", "block const 8 1 5 () 9 ret 5 ()")
	// From block to block, those that are used behind standing ahead and behind.
	checkDead(t, "block const 8 1 5 () 9 jump 0 (2) block add 8 1 7 (6 6) 0 ret 2 () block add 8 1 6 (5 5) 0 jump 0 (1)", "block jump 0 (2) block ret 2 () block jump 0 (1)")
	// Of two that use one, one stays.
	checkDead(t, "block const 8 1 5 () 9 add 8 1 6 (5 5) 0 sub 8 1 7 (6 5) 0 mul 8 1 8 (6 6) 0 ret 8 ()", "block const 8 1 5 () 9 add 8 1 6 (5 5) 0 mul 8 1 8 (6 6) 0 ret 8 ()")
	// A phi uses an operation, an operation a phi, and a phi a phi.
	checkDead(t, `block if 1 (1 2) block const 8 1 5 () 9 jump 0 (2) block phi 8 6 (0 1) (2 5) phi 8 7 (0 1) (2 2) add 8 1 8 (6 6) 0 if 4 (3 4) block jump 0 (4)
		block phi 8 9 (2 3) (8 7) phi 8 10 (2 3) (7 7) ret 10 ()`,
		"block if 1 (1 2) block jump 0 (2) block phi 8 7 (0 1) (2 2) if 4 (3 4) block jump 0 (4) block phi 8 10 (2 3) (7 7) ret 10 ()")
	checkDead(t, "block phi 8 5 () () phi 8 6 () () add 8 1 7 (5 5) 0 ret 6 ()", "block phi 8 6 () () ret 6 ()")
}

func TestWhatUsesItselfStays(t *testing.T) {
	// By the words such a value is used.
	for _, f := range []string{
		"block jump 0 (1) block phi 8 5 (0 1) (2 5) if 1 (1 2) block ret 2 ()",
		"block jump 0 (1) block phi 8 5 (0 1) (2 6) phi 8 6 (0 1) (2 5) if 1 (1 2) block ret 2 ()",
		"block jump 0 (1) block phi 8 5 (0 1) (2 6) add 8 1 6 (5 5) 0 if 1 (1 2) block ret 2 ()",
	} {
		checkDead(t, f, f)
		checkAll(t, f, f)
	}
	checkDead(t, "block jump 0 (1) block phi 8 5 (0 1) (2 6) phi 8 7 (0 1) (2 6) add 8 1 6 (5 5) 0 add 8 1 8 (7 6) 0 if 1 (1 2) block ret 2 ()",
		"block jump 0 (1) block phi 8 5 (0 1) (2 6) add 8 1 6 (5 5) 0 if 1 (1 2) block ret 2 ()")
}

func TestNumbersThatAreNoValues(t *testing.T) {
	// A 5 is an Imm, a lane, a width, or a place, too.
	checkDead(t, "block const 8 1 5 () 1 const 8 1 8 () 5 const 8 16 7 () 5 get 8 16 6 (7) 5 add 8 1 9 (6 8) 0 ret 9 ()",
		"block const 8 1 8 () 5 const 8 16 7 () 5 get 8 16 6 (7) 5 add 8 1 9 (6 8) 0 ret 9 ()")
	checkDead(t, "block const 8 1 5 () 1 if 1 (1 5) block if 4 (2 5) block jump 0 (3) block jump 0 (4) block jump 0 (5) block phi 8 6 (0 1 4) (2 2 2) ret 6 ()",
		"block if 1 (1 5) block if 4 (2 5) block jump 0 (3) block jump 0 (4) block jump 0 (5) block phi 8 6 (0 1 4) (2 2 2) ret 6 ()")
	checkDead(t, "block const 8 1 8 () 1 const 8 1 64 () 1 zext 64 1 6 (2) 8 trunc 8 1 7 (6) 64 ret 7 ()", "block zext 64 1 6 (2) 8 trunc 8 1 7 (6) 64 ret 7 ()")
}

func TestTheMostAgain(t *testing.T) {
	// A chain of as many as there may be, of which the last one isn't used.
	f := fn(t, "block ret 2 ()")
	k := &f.Blocks[0]
	for v := 5; code.Size(f) < api.MaxOps; v++ {
		k.Ops = append(k.Ops, api.Op{Kind: api.Add, Bits: 8, Lanes: 1, Dst: v, Args: []int{max(v-1, 5), 2}})
	}
	k.Ops[0].Args[0] = 2
	if g := tidy.Dead(f); !code.Same(g, fn(t, "block ret 2 ()")) {
		t.Errorf("P16.1: Dead(%v): %v", printed(f), printed(g))
	}
	k.End.Arg = k.Ops[len(k.Ops)-1].Dst
	if g := tidy.Dead(f); !code.Same(g, f) {
		t.Errorf("P16.1: Dead(%v): %v", printed(f), printed(g))
	}
}

// P16.1: All

func TestBoth(t *testing.T) {
	const f = "block const 8 1 5 () 7 const 8 1 9 () 3 jump 0 (1) block phi 8 6 (0) (5) phi 8 7 (0) (9) add 8 1 8 (7 7) 0 jump 0 (2) block ret 6 ()"
	checkOne(t, f, "block const 8 1 5 () 7 const 8 1 9 () 3 add 8 1 8 (9 9) 0 ret 5 ()")
	checkDead(t, f, "block const 8 1 5 () 7 jump 0 (1) block phi 8 6 (0) (5) jump 0 (2) block ret 6 ()")
	checkAll(t, f, "block const 8 1 5 () 7 ret 5 ()")
	// What nobody uses is left out, though nothing is made one; and the other way round.
	checkAll(t, "block const 8 1 5 () 7 if 1 (1 2) block ret 2 () block trap 0 ()", "block if 1 (1 2) block ret 2 () block trap 0 ()")
	checkAll(t, "block const 8 1 5 () 7 jump 0 (1) block ret 5 ()", "block const 8 1 5 () 7 ret 5 ()")
	// What a hammock made one block leaves behind.
	checkAll(t, `block const 8 1 5 () 1 const 1 1 9 () 1 xor 1 1 10 (1 9) 0 const 8 1 6 () 2 select 8 1 12 (1 5 6) 0 jump 0 (1) block phi 8 7 (0) (12) ret 7 ()`,
		"block const 8 1 5 () 1 const 8 1 6 () 2 select 8 1 12 (1 5 6) 0 ret 12 ()")
}

// P16.1: of what isn't right

// checkLeft checks what is told of a function that isn't right.
func checkLeft(t *testing.T, i int, f api.Func) {
	t.Helper()
	if list := tidy.Used(f); len(list) > 0 {
		t.Errorf("P16.1: %d: Used(%v): %v", i, f, list)
	}
	for _, made := range []func(api.Func) api.Func{tidy.One, tidy.Dead, tidy.All} {
		if g := made(f); !code.Same(g, f) {
			t.Errorf("P16.1: %d: of %v: %v", i, f, g)
		}
	}
}

func TestOfWhatIsNotRight(t *testing.T) {
	const blocks = "block const 8 1 5 () 5 jump 0 (1) block phi 8 6 (0) (5) load 8 1 7 (3) 0 const 8 1 8 () 6 if 1 (2 3) block ret 6 () block jump 0 (4) block ret 7 ()"
	checkAll(t, blocks, "block const 8 1 5 () 5 load 8 1 7 (3) 0 if 1 (1 2) block ret 5 () block ret 7 ()")
	for i, do := range []func(f *api.Func){
		func(f *api.Func) { *f = api.Func{} },
		func(f *api.Func) { f.Blocks = nil },
		func(f *api.Func) { f.Blocks = make([]api.Block, 65) },
		func(f *api.Func) { f.Params = slices.Repeat([]int{8}, 17) },
		func(f *api.Func) { f.Params[2] = 8 },
		func(f *api.Func) { f.Ret = 7 },
		func(f *api.Func) { f.Ret = -1 << 62 },
		func(f *api.Func) { f.Blocks[0].Ops = slices.Repeat(f.Blocks[0].Ops, 513) },
		func(f *api.Func) { f.Blocks[0].End.Kind = -1 },
		func(f *api.Func) { f.Blocks[0].End.Kind = 4 },
		func(f *api.Func) { f.Blocks[0].End.Arg = 2 },
		func(f *api.Func) { f.Blocks[0].End.To = nil },
		func(f *api.Func) { f.Blocks[0].End.To = []int{-1} },
		func(f *api.Func) { f.Blocks[0].End.To = []int{5} },
		func(f *api.Func) { f.Blocks[0].End.To = []int{0} },
		func(f *api.Func) { f.Blocks[0].End.To = []int{2} },
		func(f *api.Func) { f.Blocks[0].Ops[0].Dst = 6 },
		func(f *api.Func) { f.Blocks[0].Ops[0].Dst = -5 },
		func(f *api.Func) { f.Blocks[0].Ops[0].Dst = 1024 },
		func(f *api.Func) { f.Blocks[0].Ops[0].Imm = 256 },
		func(f *api.Func) { f.Blocks[0].Ops[0].Kind = 23 },
		func(f *api.Func) { f.Blocks[1].Phis[0].From = []int{1} },
		func(f *api.Func) { f.Blocks[1].Phis[0].From = nil },
		func(f *api.Func) { f.Blocks[1].Phis[0].Args = nil },
		func(f *api.Func) { f.Blocks[1].Phis[0].Args = []int{8} },
		func(f *api.Func) { f.Blocks[1].Phis[0].Args = []int{-1} },
		func(f *api.Func) { f.Blocks[1].Phis[0].Bits = 64 },
		func(f *api.Func) { f.Blocks[1].Ops[0].Args = nil },
		func(f *api.Func) { f.Blocks[1].Ops[0].Args = []int{900} },
		func(f *api.Func) { f.Blocks[1].Ops[0].Args = []int{1 << 62} },
		func(f *api.Func) { f.Blocks[1].End.Arg = 2 },
		func(f *api.Func) { f.Blocks[2].End.Arg = 7000 },
		func(f *api.Func) { f.Blocks[2].End.Arg = 900 },
	} {
		f := fn(t, blocks)
		do(&f)
		checkLeft(t, i, f)
	}
}
