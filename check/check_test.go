package check_test

import (
	"maps"
	"math"
	"slices"
	"strings"
	"testing"

	"lockstep/api"
	"lockstep/check"
	"lockstep/text"
)

// fn is the function of a text; tabs stand for blanks.
func fn(t *testing.T, s string) api.Func {
	t.Helper()
	f, e := text.Parse(strings.ReplaceAll(s, "\t", " "))
	if e != api.OK {
		t.Fatalf("%q: %v", s, e)
	}
	return f
}

func checkAt(t *testing.T, f api.Func, level int, want api.Code) {
	t.Helper()
	if e := check.Check(f, level); e != want {
		t.Errorf("P11.1: Check(%v, %d): %v, not %v", f, level, e, want)
	}
}

// checkLevels checks what is wrong at each level.
func checkLevels(t *testing.T, f api.Func, scalar, guarded, lanes api.Code) {
	t.Helper()
	checkAt(t, f, api.Scalar, scalar)
	checkAt(t, f, api.Guarded, guarded)
	checkAt(t, f, api.Lanes, lanes)
}

func checkWrong(t *testing.T, f api.Func, e api.Code) {
	t.Helper()
	checkLevels(t, f, e, e, e)
}

// checkTexts checks that the same is wrong with each text's function, at all
// levels.
func checkTexts(t *testing.T, e api.Code, texts ...string) {
	t.Helper()
	for _, s := range texts {
		checkWrong(t, fn(t, s), e)
	}
}

func TestRightByHand(t *testing.T) {
	checkTexts(t, api.OK,
		"func () 8 block const 8 1 1 () 5 ret 1 ()",
		"func (8) 8 block ret 1 ()",
		"func (1 8 16 32 64) 64 block ret 5 ()",
		// Ret is a width, though nothing is returned.
		"func () 1 block trap 0 ()",
		// Values by any numbers, in any order.
		"func () 8 block const 8 1 1023 () 5 const 8 1 1 () 6 add 8 1 500 (1023 1) 0 ret 500 ()",
		// One block's two ways on may be one.
		"func (1) 1 block if 1 (1 1) block ret 1 ()",
		"func (1) 1 block if 1 (1 1) block phi 1 2 (0) (1) ret 2 ()",
		// Nothing goes on at block 0: a phi there comes from nowhere.
		"func () 8 block phi 8 1 () () ret 1 ()",
		// All that a Scalar function may have.
		"func (1 8 64) 8 block add 8 1 4 (2 2) 0 sub 8 1 5 (2 4) 0 mul 8 1 6 (4 5) 0 div 8 1 7 (4 5) 0 and 8 1 8 (4 5) 0 or 8 1 9 (4 5) 0 xor 8 1 10 (4 5) 0 shl 8 1 11 (4 5) 0 shr 8 1 12 (4 5) 0 "+
			"eq 8 1 13 (4 5) 0 ult 8 1 14 (4 5) 0 slt 8 1 15 (4 5) 0 select 8 1 16 (13 4 5) 0 zext 64 1 17 (2) 8 trunc 8 1 18 (17) 64 load 8 1 19 (17) 0 store 8 1 0 (3 19) 0 ret 18 ()",
	)
}

func TestRightWays(t *testing.T) {
	checkTexts(t, api.OK,
		// What is defined in a block that dominates it, the next one or a farther one.
		"func () 8 block const 8 1 1 () 5 jump 0 (1) block jump 0 (2) block ret 1 ()",
		// The one that dominates stands behind, by its place.
		"func () 8 block jump 0 (2) block ret 1 () block const 8 1 1 () 5 jump 0 (1)",
		// A phi of what both ways define, and of what comes ahead of them.
		"func (1) 8 block const 8 1 2 () 1 if 1 (1 2) block const 8 1 3 () 2 jump 0 (3) block jump 0 (3) block phi 8 4 (1 2) (3 2) ret 4 ()",
		// A parameter is everywhere, for a phi, too.
		"func (1 8) 8 block if 1 (1 2) block jump 0 (3) block jump 0 (3) block phi 8 3 (1 2) (2 2) ret 2 ()",
		// A phi that is itself, and one that is what comes behind it in its block.
		"func (1 8) 8 block jump 0 (1) block phi 8 3 (0 1) (2 3) phi 8 4 (0 1) (2 5) add 8 1 5 (3 4) 0 if 1 (1 2) block ret 5 ()",
		// Two phis that are one another; both are ahead of the operation.
		"func (1 8) 8 block jump 0 (1) block phi 8 3 (0 1) (2 4) phi 8 4 (0 1) (2 3) sub 8 1 5 (4 3) 0 if 1 (1 2) block ret 5 ()",
		// What comes from a block may be defined at its end, or ahead of it all, on the way round.
		"func (1 8) 8 block jump 0 (1) block phi 8 3 (0 2) (2 4) if 1 (2 3) block add 8 1 4 (3 3) 0 jump 0 (1) block ret 3 ()",
		// An If asks for what its block defines last, or for a phi there.
		"func () 1 block const 1 1 1 () 1 if 1 (1 1) block phi 1 2 (0) (1) if 2 (2 2) block ret 2 ()",
	)
}

// What is wrong

func TestSizeByHand(t *testing.T) {
	checkWrong(t, api.Func{}, api.Size)
	checkWrong(t, api.Func{Params: []int{8}, Ret: 8}, api.Size)
	checkWrong(t, api.Func{Ret: 8, Blocks: make([]api.Block, api.MaxBlocks+1)}, api.Size)
	checkWrong(t, api.Func{Params: slices.Repeat([]int{8}, api.MaxParams+1), Ret: 8, Blocks: []api.Block{{End: api.End{Arg: 1}}}}, api.Size)
	checkWrong(t, chain(2, api.MaxOps-1), api.Size)
	checkWrong(t, chain(api.MaxBlocks, api.MaxOps-api.MaxBlocks+1), api.Size)
	// Numbers that may not be told; each would be Typed, Shape or Defined else.
	for _, n := range []int{-1, 1 << 31, math.MaxInt, math.MinInt, 1<<32 + 8} {
		for _, do := range []func(f *api.Func){
			func(f *api.Func) { f.Ret = n },
			func(f *api.Func) { f.Params[0] = n },
			func(f *api.Func) { f.Blocks[0].Ops[0].Bits = n },
			func(f *api.Func) { f.Blocks[0].Ops[0].Dst = n },
			func(f *api.Func) { f.Blocks[2].Ops[1].Args[0] = n },
			func(f *api.Func) { f.Blocks[0].End.To[0] = n },
			func(f *api.Func) { f.Blocks[5].End.Arg = n },
			func(f *api.Func) { f.Blocks[4].End.Kind = n },
			func(f *api.Func) { f.Blocks[3].Phis[0].Bits = n },
			func(f *api.Func) { f.Blocks[3].Phis[0].Dst = n },
			func(f *api.Func) { f.Blocks[3].Phis[0].From[1] = n },
			func(f *api.Func) { f.Blocks[3].Phis[0].Args[1] = n },
		} {
			f := whole(t)
			do(&f)
			checkWrong(t, f, api.Size)
		}
	}
}

// chain has so many blocks, one behind the other, and so many operations, in
// the last one.
func chain(blocks, ops int) api.Func {
	f := api.Func{Params: []int{64}, Ret: 64}
	for at := range blocks {
		f.Blocks = append(f.Blocks, api.Block{End: api.End{Kind: api.Jump, To: []int{at + 1}}})
	}
	last := &f.Blocks[blocks-1]
	last.End = api.End{Kind: api.Ret, Arg: ops + 1}
	for n := range ops {
		last.Ops = append(last.Ops, api.Op{Kind: api.Add, Bits: 64, Lanes: 1, Dst: n + 2, Args: []int{n + 1, 1}})
	}
	return f
}

func TestTheGreatest(t *testing.T) {
	for _, f := range []api.Func{
		chain(1, api.MaxOps-1), chain(2, api.MaxOps-2), chain(api.MaxBlocks, api.MaxOps-api.MaxBlocks),
		{Params: slices.Repeat([]int{8}, api.MaxParams), Ret: 8, Blocks: []api.Block{{End: api.End{Arg: api.MaxParams}}}},
		fan(),
	} {
		checkWrong(t, f, api.OK)
	}
	f := chain(1, 1)
	f.Blocks[0].Ops[0].Dst, f.Blocks[0].End.Arg = api.MaxValue, api.MaxValue
	checkWrong(t, f, api.OK)
	f.Blocks[0].Ops[0].Dst, f.Blocks[0].End.Arg = api.MaxValue+1, api.MaxValue+1
	checkWrong(t, f, api.Typed)
}

// fan has as many blocks as may be, all others of which go on at the last one,
// with as many phis as may be, each of what the blocks define.
func fan() api.Func {
	const n = api.MaxBlocks
	f := api.Func{Params: []int{1}, Ret: 1}
	p := api.Phi{Bits: 1}
	for at := range n - 1 {
		to := []int{min(at+1, n-2), n - 1}
		f.Blocks = append(f.Blocks, api.Block{
			Ops: []api.Op{{Kind: api.Const, Bits: 1, Lanes: 1, Dst: at + 2}},
			End: api.End{Kind: api.If, Arg: at + 2, To: to},
		})
		p.From, p.Args = append(p.From, at), append(p.Args, at+2)
	}
	f.Blocks = append(f.Blocks, api.Block{End: api.End{Arg: api.MaxValue}})
	for at := range api.MaxOps - n - (n - 1) {
		p.Dst = api.MaxValue - at
		f.Blocks[n-1].Phis = append(f.Blocks[n-1].Phis, p)
	}
	return f
}

func TestShapeByHand(t *testing.T) {
	checkTexts(t, api.Shape,
		// Ends with too few, or too many, ways on, or such as aren't there.
		"func (8) 8 block ret 1 (0)",
		"func (8) 8 block ret 1 (1) block ret 1 ()",
		"func (8) 8 block jump 0 ()",
		"func (8) 8 block jump 0 (1)",
		"func (8) 8 block jump 0 (1 1) block ret 1 ()",
		"func (1) 1 block if 1 (1) block ret 1 ()",
		"func (1) 1 block if 1 (1 2) block ret 1 ()",
		"func () 8 block trap 0 (1) block trap 0 ()",
		// Something goes on at block 0.
		"func () 8 block jump 0 (0)",
		"func (1) 1 block if 1 (1 2) block jump 0 (0) block ret 1 ()",
		// What can't be reached, or by one another alone.
		"func (8) 8 block ret 1 () block ret 1 ()",
		"func (8) 8 block ret 1 () block jump 0 (2) block jump 0 (1)",
		"func (8) 8 block jump 0 (2) block jump 0 (2) block ret 1 ()",
		// A Jump, or a Trap, with an Arg; that there is such a value doesn't help.
		"func (8) 8 block jump 1 (1) block ret 1 ()",
		"func (8) 8 block jump 9 (1) block ret 1 ()",
		"func (8) 8 block trap 1 ()",
	)
	f := fn(t, "func (8) 8 block ret 1 ()")
	for _, kind := range []int{4, 5, 256, 1<<31 - 1} {
		f.Blocks[0].End.Kind = kind
		checkWrong(t, f, api.Shape)
	}
}

func TestShapeOfPhis(t *testing.T) {
	diamond := "func (1) 1 block if 1 (1 2) block jump 0 (3) block jump 0 (3) block "
	checkTexts(t, api.OK, diamond+"phi 1 2 (1 2) (1 1) ret 1 ()")
	for _, lists := range []string{
		"() ()", "(1) (1)", "(2) (1)", "(2 1) (1 1)", "(1 1 2) (1 1 1)", "(1 2 2) (1 1 1)", "(1 3) (1 1)", "(0 1 2) (1 1 1)", "(1 2 3) (1 1 1)", "(1 2 4) (1 1 1)",
		"(1 2) ()", "(1 2) (1)", "(1 2) (1 1 1)", "() (1 1)", "(1) (1 1)",
	} {
		checkTexts(t, api.Shape, diamond+"phi 1 2 "+lists+" ret 1 ()")
		// Likewise of a phi that isn't the first one.
		checkTexts(t, api.Shape, diamond+"phi 1 3 (1 2) (1 1) phi 1 2 "+lists+" ret 1 ()")
	}
	// A block with two ways to it comes once.
	checkTexts(t, api.Shape, "func (1) 1 block if 1 (1 1) block phi 1 2 (0 0) (1 1) ret 1 ()")
	// At block 0 nothing goes on.
	checkTexts(t, api.Shape, "func (1) 1 block phi 1 2 (0) (1) ret 1 ()", "func (1) 1 block phi 1 2 () (1) ret 1 ()")
	// One that goes on at itself comes, too.
	checkTexts(t, api.Shape, "func (1) 1 block jump 0 (1) block phi 1 2 (0) (1) if 1 (1 2) block ret 1 ()")
}

func TestTypedByHand(t *testing.T) {
	for _, bits := range []string{"0", "2", "7", "9", "63", "65", "128", "256", "2147483647"} {
		checkTexts(t, api.Typed,
			"func ("+bits+") 8 block trap 0 ()",
			"func (8 16 "+bits+") 8 block ret 1 ()",
			"func (8) "+bits+" block ret 1 ()",
			"func (8) "+bits+" block trap 0 ()",
			"func (8) 8 block jump 0 (1) block phi "+bits+" 2 (0) (1) ret 1 ()",
			"func (8) 8 block add "+bits+" 1 2 (1 1) 0 ret 1 ()",
		)
	}
	checkTexts(t, api.Typed,
		"func (8) 8 block add 8 0 2 (1 1) 0 ret 1 ()",
		"func (8) 8 block add 8 3 2 (1 1) 0 ret 1 ()",
		"func (8) 8 block add 8 1 0 (1 1) 0 ret 1 ()",
		"func (8) 8 block add 8 1 1024 (1 1) 0 ret 1 ()",
		"func (8) 8 block add 8 1 2 (1) 0 ret 1 ()",
		"func (8) 8 block add 8 1 2 (1 0) 0 ret 1 ()",
		"func (8) 8 block add 8 1 2 (1 1024) 0 ret 1 ()",
		"func (8) 8 block add 8 1 2 (1 1) 1 ret 1 ()",
		"func (8) 8 block const 8 1 2 () 256 ret 1 ()",
		"func (8) 8 block zext 8 1 2 (1) 8 ret 1 ()",
		"func (64 8) 8 block store 8 1 3 (1 2) 0 ret 2 ()",
		// In a block that isn't the first one, behind what is right.
		"func (8) 8 block jump 0 (1) block add 8 1 2 (1 1) 0 add 8 1 3 (1) 0 ret 1 ()",
	)
	f := fn(t, "func (8) 8 block add 8 1 2 (1 1) 0 ret 1 ()")
	for _, kind := range []int{api.Get + 1, 24, 256, 1<<31 - 1} {
		f.Blocks[0].Ops[0].Kind = kind
		checkWrong(t, f, api.Typed)
	}
}

func TestLevels(t *testing.T) {
	alone := func(op string) api.Func {
		return fn(t, "func (1 8 64) 8 block jump 0 (1) block "+op+" ret 2 ()")
	}
	behindLanes := func(op string) api.Func {
		return fn(t, "func (1 8 64) 8 block const 8 4 4 () 1 jump 0 (1) block "+op+" ret 2 ()")
	}
	for _, op := range []string{"pload 8 1 5 (1 3 2) 0", "pstore 8 1 0 (1 3 2) 0", "pdiv 8 1 5 (1 2 2 2) 0"} {
		checkLevels(t, alone(op), api.Typed, api.OK, api.OK)
		checkLevels(t, behindLanes(op), api.Typed, api.Typed, api.OK)
	}
	for _, op := range []string{"const 8 2 5 () 0", "load 8 16 5 (3) 0", "load 64 2 5 (3) 0", "pack 8 2 5 (2 2) 0"} {
		checkLevels(t, alone(op), api.Typed, api.Typed, api.OK)
	}
	for _, op := range []string{"get 8 4 5 (4) 3", "add 8 4 5 (4 4) 0", "select 8 4 5 (1 4 4) 0", "store 8 4 0 (3 4) 0"} {
		checkLevels(t, behindLanes(op), api.Typed, api.Typed, api.OK)
	}
	// What may not be is of no level.
	for _, op := range []string{"pload 8 2 5 (1 3 2) 0", "pload 1 1 5 (1 3 1) 0", "pdiv 8 1 5 (1 2 2) 0", "pack 8 1 5 (2) 0", "get 8 4 5 (4) 4", "add 16 16 5 (4 4) 0"} {
		checkWrong(t, behindLanes(op), api.Typed)
	}
}

func TestDefinedTwice(t *testing.T) {
	checkTexts(t, api.Defined,
		// A parameter's number; the last one's, too.
		"func (8) 8 block const 8 1 1 () 5 ret 1 ()",
		"func (8 8 8) 8 block const 8 1 3 () 5 ret 1 ()",
		"func (8) 8 block jump 0 (1) block phi 8 1 (0) (1) ret 1 ()",
		// In one block, or in two, even by what is the same, or on two ways.
		"func () 8 block const 8 1 1 () 5 const 8 1 1 () 5 ret 1 ()",
		"func () 8 block const 8 1 1 () 5 jump 0 (1) block const 8 1 1 () 5 ret 1 ()",
		"func (1) 8 block if 1 (1 2) block const 8 1 2 () 5 ret 2 () block const 8 1 2 () 5 ret 2 ()",
		// By phis, and by a phi and an operation.
		"func (8) 8 block jump 0 (1) block phi 8 2 (0) (1) phi 8 2 (0) (1) ret 2 ()",
		"func (8) 8 block jump 0 (1) block phi 8 2 (0) (1) const 8 1 2 () 5 ret 2 ()",
		// By other shapes.
		"func () 8 block const 8 1 1 () 5 const 16 1 1 () 5 ret 1 ()",
		// A phi's Dst that is no value's.
		"func (8) 8 block jump 0 (1) block phi 8 0 (0) (1) ret 1 ()",
		"func (8) 8 block jump 0 (1) block phi 8 1024 (0) (1) ret 1 ()",
		"func (8) 8 block jump 0 (1) block phi 8 2147483647 (0) (1) ret 1 ()",
	)
	// Stores define nothing, however many there are.
	checkTexts(t, api.OK, "func (64 8) 8 block store 8 1 0 (1 2) 0 store 8 1 0 (1 2) 0 ret 2 ()")
}

func TestDefinedNowhere(t *testing.T) {
	checkTexts(t, api.Defined,
		// The chapter's example.
		"func () 8 block ret 1 ()",
		"func () 8 block ret 0 ()",
		"func (8) 8 block ret 0 ()",
		"func (8) 8 block ret 2 ()",
		"func (8) 8 block ret 1024 ()",
		"func (8) 8 block ret 2147483647 ()",
		"func () 1 block if 1 (1 1) block trap 0 ()",
		"func () 1 block if 0 (1 1) block trap 0 ()",
		"func (8) 8 block add 8 1 2 (1 3) 0 ret 1 ()",
		"func (8) 8 block add 8 1 2 (3 1) 0 ret 1 ()",
		"func (64) 8 block store 8 1 0 (1 2) 0 trap 0 ()",
		"func (8) 8 block jump 0 (1) block phi 8 2 (0) (3) ret 1 ()",
		"func (8) 8 block jump 0 (1) block phi 8 2 (0) (0) ret 1 ()",
		"func (8) 8 block jump 0 (1) block phi 8 2 (0) (1024) ret 1 ()",
	)
}

func TestArgumentsTyped(t *testing.T) {
	checkTexts(t, api.Typed,
		"func (8) 16 block ret 1 ()",
		"func (1) 8 block ret 1 ()",
		"func (8) 8 block if 1 (1 1) block ret 1 ()",
		"func (64) 64 block if 1 (1 1) block ret 1 ()",
		"func (8 16) 8 block jump 0 (1) block phi 8 3 (0) (2) ret 1 ()",
		"func (8 16) 8 block jump 0 (1) block phi 16 3 (0) (1) ret 1 ()",
		"func (8 16) 8 block add 8 1 3 (1 2) 0 ret 1 ()",
		"func (8 16) 8 block add 8 1 3 (2 1) 0 ret 1 ()",
		"func (8) 8 block eq 8 1 2 (1 1) 0 ret 2 ()",
		"func (8) 8 block eq 8 1 2 (1 1) 0 add 8 1 3 (1 2) 0 ret 1 ()",
		"func (8) 8 block select 8 1 2 (1 1 1) 0 ret 2 ()",
		"func (8) 8 block load 8 1 2 (1) 0 ret 2 ()",
		"func (64 8) 8 block store 8 1 0 (2 2) 0 ret 2 ()",
		"func (64 8) 8 block store 8 1 0 (1 1) 0 ret 2 ()",
		"func (8) 16 block zext 16 1 2 (1) 1 ret 2 ()",
		"func (64) 8 block trunc 8 1 2 (1) 32 ret 2 ()",
		// Though it is not defined there, either.
		"func (8 16) 8 block add 8 1 3 (1 4) 0 add 16 1 4 (2 2) 0 ret 1 ()",
	)
	// Values of other lanes.
	for _, s := range []string{
		"func () 8 block const 8 2 1 () 5 ret 1 ()",
		"func (8) 8 block const 8 2 2 () 5 jump 0 (1) block phi 8 3 (0) (2) ret 1 ()",
		"func (8) 8 block const 8 2 2 () 5 add 8 4 3 (2 2) 0 ret 1 ()",
		"func (8) 8 block const 8 2 2 () 5 add 8 1 3 (2 1) 0 ret 1 ()",
		"func (8) 8 block const 8 2 2 () 5 get 8 4 3 (2) 0 ret 1 ()",
		"func (8) 8 block const 8 2 2 () 5 get 8 2 3 (2) 1 get 8 2 4 (3) 1 ret 1 ()",
		"func (8) 8 block const 8 2 2 () 5 pack 8 2 3 (1 2) 0 ret 1 ()",
		"func (8) 8 block const 64 2 2 () 5 load 8 1 3 (2) 0 ret 1 ()",
	} {
		checkWrong(t, fn(t, s), api.Typed)
	}
}

func TestDefinedElsewhere(t *testing.T) {
	checkTexts(t, api.Defined,
		// Behind it in its block; by itself.
		"func () 8 block add 8 1 2 (1 1) 0 const 8 1 1 () 5 ret 2 ()",
		"func () 8 block add 8 1 1 (1 1) 0 ret 1 ()",
		// On one way alone, or on the other one.
		"func (1) 8 block if 1 (1 2) block const 8 1 2 () 5 jump 0 (2) block ret 2 ()",
		"func (1) 8 block if 1 (1 2) block const 8 1 2 () 5 jump 0 (3) block jump 0 (3) block ret 2 ()",
		"func (1) 8 block if 1 (1 2) block const 8 1 2 () 5 trap 0 () block ret 2 ()",
		// In a block behind, though ahead by its place, and though each way leads there.
		"func () 8 block jump 0 (2) block const 8 1 1 () 5 jump 0 (3) block add 8 1 2 (1 1) 0 jump 0 (1) block ret 1 ()",
		// In a block that dominates none but itself: on the way round it is behind.
		"func (1) 8 block jump 0 (1) block add 8 1 2 (3 3) 0 const 8 1 3 () 5 if 1 (1 2) block ret 2 ()",
		"func () 1 block jump 0 (1) block if 1 (2 1) block const 1 1 1 () 0 jump 0 (1)",
		// An If's.
		"func () 1 block if 1 (1 1) block const 1 1 1 () 1 ret 1 ()",
		// A phi's, of the other way; of its own block, or of one behind it.
		"func (1) 8 block if 1 (1 2) block const 8 1 2 () 5 jump 0 (3) block const 8 1 3 () 6 jump 0 (3) block phi 8 4 (1 2) (3 2) ret 4 ()",
		"func (8) 8 block jump 0 (1) block phi 8 2 (0) (2) ret 2 ()",
		"func (8) 8 block jump 0 (1) block phi 8 2 (0) (3) const 8 1 3 () 5 ret 2 ()",
		"func (8) 8 block jump 0 (1) block phi 8 2 (0) (1) phi 8 3 (0) (2) ret 3 ()",
		// What is defined on the way round isn't on the way in.
		"func (1 8) 8 block jump 0 (1) block phi 8 3 (0 1) (4 4) add 8 1 4 (2 2) 0 if 1 (1 2) block ret 3 ()",
	)
	checkTexts(t, api.OK, "func (1 8) 8 block jump 0 (1) block phi 8 3 (0 1) (2 4) add 8 1 4 (2 2) 0 if 1 (1 2) block ret 3 ()")
}

// whole has something of all that can be wrong.
func whole(t *testing.T) api.Func {
	t.Helper()
	return fn(t, `func (1 8 64) 8
		block const 8 1 4 () 7 if 1 (1 2)
		block add 8 1 5 (2 4) 0 jump 0 (3)
		block mul 8 1 6 (2 4) 0 store 8 1 0 (3 6) 0 jump 0 (3)
		block phi 8 7 (1 2) (5 6) sub 8 1 8 (7 2) 0 if 1 (4 5)
		block trap 0 ()
		block ret 8 ()`)
}

// faults are, by what is asked ahead, what may be wrong with a whole.
func faults() [][]func(f *api.Func) {
	return [][]func(f *api.Func){{ // Size
		func(f *api.Func) { f.Params = make([]int, 17) },
		func(f *api.Func) { f.Blocks[2].Ops[0].Lanes = -1 },
		func(f *api.Func) { f.Blocks[1].Ops[0].Args = slices.Repeat([]int{1}, 65) },
	}, { // Shape
		func(f *api.Func) { f.Blocks[5].End.Kind = 4 },
		func(f *api.Func) { f.Blocks[1].End.To = []int{6} },
		func(f *api.Func) { f.Blocks[1].End.To = []int{0} },
		func(f *api.Func) { f.Blocks[3].End.To = []int{4, 4} },
		func(f *api.Func) { f.Blocks[3].Phis[0].From = []int{2, 1} },
		func(f *api.Func) { f.Blocks[3].Phis[0].Args = []int{5, 6, 5} },
		func(f *api.Func) { f.Blocks[2].End.Arg = 1 },
		func(f *api.Func) { f.Blocks[4].End.Arg = 1 },
	}, { // Typed
		func(f *api.Func) { f.Params[2] = 63 },
		func(f *api.Func) { f.Ret = 0 },
		func(f *api.Func) { f.Blocks[3].Phis[0].Bits = 2 },
		func(f *api.Func) { f.Blocks[2].Ops[1].Dst = 9 },
		func(f *api.Func) { f.Blocks[3].Ops[0].Kind = 23 },
		func(f *api.Func) { f.Blocks[3].Ops[0].Imm = 1 },
	}, { // Defined
		func(f *api.Func) { f.Blocks[0].Ops[0].Dst = 2 },
		func(f *api.Func) { f.Blocks[2].Ops[0].Dst = 5 },
		func(f *api.Func) { f.Blocks[3].Phis[0].Dst = 0 },
		func(f *api.Func) { f.Blocks[3].Phis[0].Args[1] = 9 },
		func(f *api.Func) { f.Blocks[1].Ops[0].Args[0] = 1023 },
		func(f *api.Func) { f.Blocks[0].End.Arg = 0 },
		func(f *api.Func) { f.Blocks[5].End.Arg = 1024 },
	}, { // Typed
		func(f *api.Func) { f.Blocks[3].Phis[0].Args[0] = 3 },
		func(f *api.Func) { f.Blocks[2].Ops[1].Args[0] = 4 },
		func(f *api.Func) { f.Blocks[3].End.Arg = 2 },
		func(f *api.Func) { f.Blocks[5].End.Arg = 1 },
	}, { // Defined
		func(f *api.Func) { f.Blocks[3].Phis[0].Args[0], f.Blocks[3].Phis[0].Args[1] = 6, 5 },
		func(f *api.Func) { f.Blocks[1].Ops[0].Args[1] = 5 },
		func(f *api.Func) { f.Blocks[3].Ops[0].Args[1] = 6 },
		func(f *api.Func) { f.Blocks[5].End.Arg = 5 },
	}}
}

func TestTheFirstOfTwo(t *testing.T) {
	codes := []api.Code{api.Size, api.Shape, api.Typed, api.Defined, api.Typed, api.Defined}
	checkWrong(t, whole(t), api.OK)
	for first, some := range faults() {
		for _, do := range some {
			f := whole(t)
			do(&f)
			checkWrong(t, f, codes[first])
			// The one named first is made last, so that it stays.
			for _, others := range faults()[first:] {
				for _, also := range others {
					f := whole(t)
					also(&f)
					do(&f)
					checkWrong(t, f, codes[first])
				}
			}
		}
	}
}

func TestNoLevel(t *testing.T) {
	for _, level := range []int{-1, -2, 3, 4, 256, 257, 1 << 32, 1<<32 + 1, math.MaxInt, math.MinInt} {
		checkAt(t, whole(t), level, api.Arg)
		// Of no level nothing else is told.
		checkAt(t, api.Func{}, level, api.Arg)
		for _, some := range faults() {
			f := whole(t)
			some[0](&f)
			checkAt(t, f, level, api.Arg)
		}
	}
}

// Shapes

func checkShapes(t *testing.T, f api.Func, want map[int][2]int) {
	t.Helper()
	if s := check.Shapes(f); !maps.Equal(s, want) {
		t.Errorf("P11.1: Shapes(%v): %v, not %v", f, s, want)
	}
}

func TestShapesByHand(t *testing.T) {
	checkShapes(t, fn(t, "func () 8 block trap 0 ()"), nil)
	checkShapes(t, fn(t, "func () 8 block const 8 1 9 () 5 ret 9 ()"), map[int][2]int{9: {8, 1}})
	checkShapes(t, whole(t), map[int][2]int{1: {1, 1}, 2: {8, 1}, 3: {64, 1}, 4: {8, 1}, 5: {8, 1}, 6: {8, 1}, 7: {8, 1}, 8: {8, 1}})
	// What each kind gives; Store and Pstore give nothing.
	checkShapes(t, fn(t, `func (1 8 64) 8
		block eq 8 1 4 (2 2) 0 ult 64 1 5 (3 3) 0 slt 8 1 6 (2 2) 0 select 64 1 7 (4 3 3) 0 zext 32 1 8 (2) 8 trunc 16 1 9 (8) 32 if 5 (1 1)
		block phi 16 10 (0) (9) load 32 4 11 (3) 0 store 32 4 0 (3 11) 0 pload 8 1 12 (1 3 2) 0 pstore 8 1 0 (1 3 2) 0 pdiv 16 1 13 (1 9 9 9) 0
			pack 8 16 14 (2 2 2 2 2 2 2 2 2 2 2 2 2 2 2 2) 0 get 8 16 15 (14) 15 get 32 4 16 (11) 0 const 64 2 17 () 1 shl 64 2 1023 (17 17) 0 ret 15 ()`),
		map[int][2]int{1: {1, 1}, 2: {8, 1}, 3: {64, 1}, 4: {1, 1}, 5: {1, 1}, 6: {1, 1}, 7: {64, 1}, 8: {32, 1}, 9: {16, 1}, 10: {16, 1}, 11: {32, 4},
			12: {8, 1}, 13: {16, 1}, 14: {8, 16}, 15: {8, 1}, 16: {32, 1}, 17: {64, 2}, 1023: {64, 2}})
}

func TestShapesOfWhatIsWrong(t *testing.T) {
	checkShapes(t, api.Func{}, nil)
	for _, some := range faults() {
		for _, do := range some {
			f := whole(t)
			do(&f)
			checkShapes(t, f, nil)
		}
	}
}

// Last

func checkLast(t *testing.T, f api.Func, want int) {
	t.Helper()
	if last := check.Last(f); last != want {
		t.Errorf("P11.1: Last(%v): %d, not %d", f, last, want)
	}
}

func TestLastByHand(t *testing.T) {
	checkLast(t, api.Func{}, 0)
	checkLast(t, whole(t), 8)
	checkLast(t, fn(t, "func () 8 block trap 0 ()"), 0)
	checkLast(t, fn(t, "func (8 8 8) 8 block ret 1 ()"), 3)
	checkLast(t, fn(t, "func (8 8 8) 8 block const 8 1 2 () 5 ret 1 ()"), 3)
	checkLast(t, fn(t, "func (8) 8 block const 8 1 9 () 5 const 8 1 3 () 5 jump 0 (1) block phi 8 4 (0) (1) ret 1 ()"), 9)
	checkLast(t, fn(t, "func (8) 8 block const 8 1 3 () 5 jump 0 (1) block phi 8 4 (0) (1) phi 8 7 (0) (1) const 8 1 5 () 5 ret 1 ()"), 7)
	// Only what is defined counts, not what is used, returned, or asked for.
	checkLast(t, fn(t, "func (8) 8 block const 8 1 3 () 99 add 8 1 2 (98 97) 0 if 96 (95 94) block phi 8 4 (93) (92) ret 91 ()"), 4)
}

func TestLastOfWhatIsWrong(t *testing.T) {
	// Of whatever kind, though it defines nothing, or is none.
	f := api.Func{Blocks: []api.Block{{Ops: []api.Op{{Kind: api.Store, Dst: 7}}}}}
	checkLast(t, f, 7)
	for _, kind := range []int{api.Pstore, api.Const, api.Get, api.Get + 1, -1, math.MaxInt} {
		f.Blocks[0].Ops[0].Kind = kind
		checkLast(t, f, 7)
	}
	for _, dst := range []int{1023, 1024, 1 << 31, 1<<32 + 1, math.MaxInt} {
		checkLast(t, api.Func{Blocks: []api.Block{{Ops: []api.Op{{Dst: dst}, {Dst: 2}}}}}, dst)
		checkLast(t, api.Func{Blocks: []api.Block{{}, {Phis: []api.Phi{{Dst: 3}, {Dst: dst}}}}}, dst)
	}
	// What is below 0 is no more than how many parameters there are.
	for _, dst := range []int{-1, -9, math.MinInt} {
		f := api.Func{Blocks: []api.Block{{Ops: []api.Op{{Dst: dst}}, Phis: []api.Phi{{Dst: dst}}}}}
		checkLast(t, f, 0)
		f.Params = make([]int, 2)
		checkLast(t, f, 2)
	}
	// However great it is.
	checkLast(t, api.Func{Params: make([]int, 2000), Blocks: make([]api.Block, 70)}, 2000)
	f = api.Func{Blocks: make([]api.Block, 100)}
	f.Blocks[99].Ops = slices.Repeat([]api.Op{{Dst: 5}}, 1000)
	checkLast(t, f, 5)
	f.Blocks[80].Phis = slices.Repeat([]api.Phi{{Dst: 6}}, 1000)
	checkLast(t, f, 6)
}
