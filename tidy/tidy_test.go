package tidy_test

import (
	"math"
	"slices"
	"strconv"
	"strings"
	"testing"

	"lockstep/api"
	"lockstep/check"
	"lockstep/code"
	"lockstep/eval"
	"lockstep/mem"
	"lockstep/text"
	"lockstep/tidy"
)

// plenty is more fuel than any function here that ends asks for.
const plenty = 100000

// fn parses a function's text: a condition 1, a byte 2, an address 3 and another
// condition 4 are its parameters.
func fn(t *testing.T, blocks string) api.Func {
	t.Helper()
	f, e := text.Parse("func (1 8 64 1) 8 " + strings.Join(strings.Fields(blocks), " "))
	if e != api.OK {
		t.Fatalf("%q: %v", blocks, e)
	}
	if e := check.Check(f, api.Lanes); e != api.OK {
		t.Fatalf("%q isn't right: %v", blocks, e)
	}
	return f
}

func printed(f api.Func) string {
	s, e := text.Print(f)
	return s + strconv.Itoa(int(e))
}

// checkUsed checks which values of a function are used.
func checkUsed(t *testing.T, blocks string, want ...int) {
	t.Helper()
	if list := tidy.Used(fn(t, blocks)); !slices.Equal(list, want) {
		t.Errorf("P16.1: Used(%v): %v, not %v", blocks, list, want)
	}
}

// checkOne checks what becomes of a function by One, and that it does the same.
func checkOne(t *testing.T, blocks, want string) {
	t.Helper()
	checkMade(t, "One", tidy.One, blocks, want)
}

func checkDead(t *testing.T, blocks, want string) {
	t.Helper()
	checkMade(t, "Dead", tidy.Dead, blocks, want)
}

func checkAll(t *testing.T, blocks, want string) {
	t.Helper()
	checkMade(t, "All", tidy.All, blocks, want)
}

func checkMade(t *testing.T, name string, made func(api.Func) api.Func, blocks, want string) {
	t.Helper()
	f, w := fn(t, blocks), fn(t, want)
	g := made(f)
	if !code.Same(g, w) {
		t.Errorf("P16.1: %s(%v): %v\nnot %v", name, blocks, printed(g), printed(w))
	}
	if again := made(g); !code.Same(again, g) {
		t.Errorf("P16.1: %s(%v) isn't all: %v", name, printed(g), printed(again))
	}
	checkAsBefore(t, f, g)
}

// came is how something came out.
type came struct {
	run   api.Run
	bytes []byte
	trace []api.Touch
}

func ran(t *testing.T, f api.Func, args []uint64, b []byte, fuel int) came {
	t.Helper()
	m, _ := mem.New(b)
	r, e := eval.Run(f, args, m, fuel)
	if e != api.OK {
		t.Fatalf("P16.2: %v can't be run: %v", f, e)
	}
	return came{r, m.Bytes(), m.Trace()}
}

// isSame tells whether it came out as what it was made of did, in no more steps.
func (c came) isSame(was came) bool {
	return c.run.Code == was.run.Code && c.run.Value == was.run.Value && c.run.Steps <= was.run.Steps &&
		slices.Equal(c.bytes, was.bytes) && slices.Equal(c.trace, was.trace)
}

// checkNotGreater checks that what was made of a function is right at the levels
// at which that was, and no greater.
func checkNotGreater(t *testing.T, f, g api.Func) {
	t.Helper()
	for level := api.Scalar; level <= api.Lanes; level++ {
		if e := check.Check(g, level); e != api.OK && check.Check(f, level) == api.OK {
			t.Fatalf("P16.2: %v\nof %v isn't right at level %d: %v", printed(g), printed(f), level, e)
		}
	}
	if code.Size(g) > code.Size(f) || check.Last(g) > check.Last(f) || len(g.Blocks) > len(f.Blocks) {
		t.Errorf("P16.2: %v\nis greater than %v", printed(g), printed(f))
	}
}

// checkAsBefore checks P16.2 of a function with fn's parameters, and of what was
// made of it.
func checkAsBefore(t *testing.T, f, g api.Func) {
	t.Helper()
	checkNotGreater(t, f, g)
	for i := range 4 {
		for _, v := range []uint64{0, 1, 7, 255} {
			for _, at := range []uint64{0, 1, 8, 9, math.MaxUint64 - 1} {
				args := []uint64{uint64(i % 2), v, at, uint64(i / 2)}
				checkRuns(t, f, g, input{args, []byte{1, 2, 0, 255, 3, 8, 7, 200, 0}})
			}
		}
	}
}

// P16.1: Used

func TestUsed(t *testing.T) {
	checkUsed(t, "block trap 0 ()")
	checkUsed(t, "block jump 0 (1) block trap 0 ()")
	checkUsed(t, "block ret 2 ()", 2)
	checkUsed(t, "block if 4 (1 1) block trap 0 ()", 4)
	// What is defined alone isn't used; what is used twice is told once.
	checkUsed(t, "block const 8 1 5 () 7 const 8 1 6 () 7 trap 0 ()")
	checkUsed(t, "block const 8 1 900 () 7 mul 8 1 5 (900 900) 0 sub 8 1 6 (900 2) 0 ret 900 ()", 2, 900)
	checkUsed(t, "block const 8 1 1023 () 7 ret 1023 ()", 1023)
	// A number is no value, though it might be one's.
	checkUsed(t, "block const 8 1 5 () 6 const 8 1 6 () 5 zext 64 1 7 (2) 8 trunc 8 1 8 (3) 64 ret 6 ()", 2, 3, 6)
	checkUsed(t, "block const 8 4 5 () 1 get 8 4 6 (5) 3 trap 0 ()", 5)
}

func TestUsedByEachArgument(t *testing.T) {
	const ops = "const 8 1 10 () 1 const 8 1 11 () 2 const 8 1 12 () 3 const 64 1 13 () 1 const 1 1 14 () 1 "
	checkUsed(t, "block "+ops+"add 8 1 5 (10 11) 0 trap 0 ()", 10, 11)
	checkUsed(t, "block "+ops+"select 8 1 5 (14 12 11) 0 trap 0 ()", 11, 12, 14)
	checkUsed(t, "block "+ops+"load 8 1 5 (13) 0 trap 0 ()", 13)
	checkUsed(t, "block "+ops+"store 8 1 0 (13 12) 0 trap 0 ()", 12, 13)
	checkUsed(t, "block "+ops+"pload 8 1 5 (14 13 12) 0 trap 0 ()", 12, 13, 14)
	checkUsed(t, "block "+ops+"pstore 8 1 0 (14 13 12) 0 trap 0 ()", 12, 13, 14)
	checkUsed(t, "block "+ops+"pdiv 8 1 5 (14 10 11 12) 0 trap 0 ()", 10, 11, 12, 14)
	checkUsed(t, "block "+ops+"pack 8 4 5 (10 12 2 12) 0 trap 0 ()", 2, 10, 12)
	checkUsed(t, "block if 1 (1 2) block jump 0 (3) block const 8 1 5 () 6 jump 0 (3) block phi 8 7 (1 2) (2 5) trap 0 ()", 1, 2, 5)
}

func TestUsedByAPhiOfItsOwn(t *testing.T) {
	// A loop's phi is its own argument; one of the first block has none.
	checkUsed(t, "block jump 0 (1) block phi 8 6 (0 1) (2 6) jump 0 (1)", 2, 6)
	checkUsed(t, "block phi 8 6 () () phi 8 7 () () ret 7 ()", 7)
}

// P16.1: One

func TestTwoAreOne(t *testing.T) {
	checkOne(t, "block const 8 1 5 () 7 jump 0 (1) block add 8 1 6 (5 2) 0 ret 6 ()", "block const 8 1 5 () 7 add 8 1 6 (5 2) 0 ret 6 ()")
	checkOne(t, "block jump 0 (1) block trap 0 ()", "block trap 0 ()")
	checkOne(t, "block store 8 1 0 (3 2) 0 jump 0 (1) block load 8 1 5 (3) 0 if 1 (2 3) block ret 5 () block trap 0 ()",
		"block store 8 1 0 (3 2) 0 load 8 1 5 (3) 0 if 1 (1 2) block ret 5 () block trap 0 ()")
	// The ways on of an If stay in their order, and may be alike.
	checkOne(t, "block jump 0 (1) block if 1 (3 2) block ret 2 () block trap 0 ()", "block if 1 (2 1) block ret 2 () block trap 0 ()")
	checkOne(t, "block jump 0 (1) block if 1 (2 2) block ret 2 ()", "block if 1 (1 1) block ret 2 ()")
	// The first block's own phis stay.
	checkOne(t, "block phi 8 5 () () jump 0 (1) block ret 5 ()", "block phi 8 5 () () ret 5 ()")
}

func TestOneBehindTheOther(t *testing.T) {
	const one = "block const 8 1 5 () 1 const 8 1 6 () 2 const 8 1 7 () 3 ret 7 ()"
	checkOne(t, "block jump 0 (1) block const 8 1 5 () 1 jump 0 (2) block const 8 1 6 () 2 jump 0 (3) block const 8 1 7 () 3 ret 7 ()", one)
	checkOne(t, "block jump 0 (3) block const 8 1 7 () 3 ret 7 () block const 8 1 6 () 2 jump 0 (1) block const 8 1 5 () 1 jump 0 (2)", one)
	checkOne(t, "block jump 0 (2) block const 8 1 6 () 2 jump 0 (3) block const 8 1 5 () 1 jump 0 (1) block const 8 1 7 () 3 ret 7 ()", one)
	// What is made one stands where its first one stood, as many places ahead as are gone.
	checkOne(t, "block if 1 (5 4) block ret 2 () block const 8 1 5 () 1 jump 0 (1) block trap 0 () block jump 0 (3) block jump 0 (2)",
		"block if 1 (2 1) block trap 0 () block const 8 1 5 () 1 ret 2 ()")
}

func TestNotOne(t *testing.T) {
	for _, blocks := range []string{
		"block ret 2 ()",
		"block trap 0 ()",
		// Both go on there.
		"block if 1 (1 2) block jump 0 (3) block jump 0 (3) block ret 2 ()",
		"block if 1 (1 2) block jump 0 (2) block ret 2 ()",
		// An If, though but one block.
		"block if 1 (1 1) block ret 2 ()",
		"block if 1 (1 2) block ret 2 () block trap 0 ()",
		// One that goes on at itself.
		"block if 1 (1 2) block jump 0 (1) block ret 2 ()",
		"block jump 0 (1) block jump 0 (1)",
		"block if 1 (1 2) block jump 0 (3) block ret 2 () block if 4 (3 2)",
	} {
		checkOne(t, blocks, blocks)
	}
}

func TestPhisBecomeWhatComes(t *testing.T) {
	// Whatever uses them: an operation, at each place; a phi; an If; a Ret.
	checkOne(t, `block const 1 1 20 () 1 jump 0 (1) block phi 8 5 (0) (2) phi 64 6 (0) (3) phi 1 7 (0) (20) phi 8 8 (0) (2) store 8 1 0 (6 5) 0 select 8 1 9 (7 8 5) 0 if 7 (2 3)
		block pload 8 1 10 (7 6 8) 0 jump 0 (3) block phi 8 11 (1 2) (5 10) phi 8 12 (1 2) (8 5) phi 8 13 (1 2) (9 9) if 7 (4 5) block ret 5 () block ret 8 ()`,
		`block const 1 1 20 () 1 store 8 1 0 (3 2) 0 select 8 1 9 (20 2 2) 0 if 20 (1 2)
		block pload 8 1 10 (20 3 2) 0 jump 0 (2) block phi 8 11 (0 1) (2 10) phi 8 12 (0 1) (2 2) phi 8 13 (0 1) (9 9) if 20 (3 4) block ret 2 () block ret 2 ()`)
	// A number that is the same as a phi's is none of its uses; nor is one that defines.
	checkOne(t, "block jump 0 (1) block phi 8 7 (0) (2) const 8 1 9 () 7 const 8 4 10 () 7 get 8 4 11 (10) 3 ret 7 ()", "block const 8 1 9 () 7 const 8 4 10 () 7 get 8 4 11 (10) 3 ret 2 ()")
	// Of many lanes: what Pack takes.
	checkOne(t, "block jump 0 (1) block phi 8 7 (0) (2) pack 8 2 9 (7 2) 0 get 8 2 10 (9) 0 ret 10 ()", "block pack 8 2 9 (2 2) 0 get 8 2 10 (9) 0 ret 10 ()")
}

func TestWhatBecameBecomes(t *testing.T) {
	// A phi's Arg is another phi's, of a block ahead, whichever is made one first.
	const one = "block add 8 1 9 (2 2) 0 mul 8 1 10 (2 9) 0 ret 2 ()"
	checkOne(t, "block jump 0 (1) block phi 8 5 (0) (2) add 8 1 9 (5 2) 0 jump 0 (2) block phi 8 6 (1) (5) jump 0 (3) block phi 8 7 (2) (6) mul 8 1 10 (7 9) 0 ret 7 ()", one)
	checkOne(t, "block jump 0 (3) block phi 8 7 (2) (6) mul 8 1 10 (7 9) 0 ret 7 () block phi 8 6 (3) (5) jump 0 (1) block phi 8 5 (0) (2) add 8 1 9 (5 2) 0 jump 0 (2)", one)
	checkOne(t, "block jump 0 (2) block phi 8 6 (2) (5) jump 0 (3) block phi 8 5 (0) (2) add 8 1 9 (5 2) 0 jump 0 (1) block phi 8 7 (1) (6) mul 8 1 10 (7 9) 0 ret 7 ()", one)
	// All of a block's phis are asked at once.
	checkOne(t, "block const 8 1 9 () 1 jump 0 (1) block phi 8 5 (0) (2) phi 8 6 (0) (9) jump 0 (2) block phi 8 7 (1) (6) phi 8 8 (1) (5) sub 8 1 10 (7 8) 0 ret 10 ()",
		"block const 8 1 9 () 1 sub 8 1 10 (9 2) 0 ret 10 ()")
}

func TestWhatCameFromTheSecond(t *testing.T) {
	// x stands ahead of the other comer, and y behind it.
	checkOne(t, "block if 1 (1 2) block const 8 1 5 () 1 jump 0 (4) block jump 0 (3) block phi 8 6 (2 4) (2 5) ret 6 () block jump 0 (3)",
		"block if 1 (1 2) block const 8 1 5 () 1 jump 0 (3) block jump 0 (3) block phi 8 6 (1 2) (5 2) ret 6 ()")
	// y stands ahead of it, and x behind it.
	checkOne(t, "block if 1 (3 2) block jump 0 (4) block jump 0 (4) block const 8 1 5 () 1 jump 0 (1) block phi 8 6 (1 2) (5 2) ret 6 ()",
		"block if 1 (2 1) block jump 0 (3) block const 8 1 5 () 1 jump 0 (3) block phi 8 6 (1 2) (2 5) ret 6 ()")
	// Both stand on one side of it.
	checkOne(t, "block if 1 (1 3) block const 8 1 5 () 1 jump 0 (2) block jump 0 (4) block jump 0 (4) block phi 8 6 (2 3) (5 2) ret 6 ()",
		"block if 1 (1 2) block const 8 1 5 () 1 jump 0 (3) block jump 0 (3) block phi 8 6 (1 2) (5 2) ret 6 ()")
	// More of them, and more phis.
	checkOne(t, `block const 8 1 9 () 9 if 1 (1 2) block const 8 1 5 () 1 jump 0 (6) block if 4 (3 4) block jump 0 (5) block jump 0 (5)
		block phi 8 7 (3 4 6) (2 9 5) phi 8 8 (3 4 6) (9 2 9) add 8 1 10 (7 8) 0 ret 10 () block jump 0 (5)`,
		`block const 8 1 9 () 9 if 1 (1 2) block const 8 1 5 () 1 jump 0 (5) block if 4 (3 4) block jump 0 (5) block jump 0 (5)
		block phi 8 7 (1 3 4) (5 2 9) phi 8 8 (1 3 4) (9 9 2) add 8 1 10 (7 8) 0 ret 10 ()`)
	checkOne(t, `block const 8 1 9 () 9 if 1 (5 2) block jump 0 (6) block if 4 (3 4) block jump 0 (6) block jump 0 (6) block const 8 1 5 () 1 jump 0 (1)
		block phi 8 7 (1 3 4) (5 2 9) phi 8 8 (1 3 4) (9 9 2) add 8 1 10 (7 8) 0 ret 10 ()`,
		`block const 8 1 9 () 9 if 1 (4 1) block if 4 (2 3) block jump 0 (5) block jump 0 (5) block const 8 1 5 () 1 jump 0 (5)
		block phi 8 7 (2 3 4) (2 9 5) phi 8 8 (2 3 4) (9 2 9) add 8 1 10 (7 8) 0 ret 10 ()`)
	// Both ways of y's If lead to blocks with phis.
	checkOne(t, "block if 4 (1 3) block const 8 1 5 () 1 jump 0 (2) block if 1 (3 4) block phi 8 6 (0 2) (2 5) jump 0 (4) block phi 8 7 (2 3) (5 6) ret 7 ()",
		"block if 4 (1 2) block const 8 1 5 () 1 if 1 (2 3) block phi 8 6 (0 1) (2 5) jump 0 (3) block phi 8 7 (1 2) (5 6) ret 7 ()")
}

func TestWhatGoesRound(t *testing.T) {
	// y goes on at x again, whose phi takes what y's became.
	checkOne(t, "block const 8 1 11 () 9 jump 0 (1) block phi 8 5 (0 2) (2 6) add 8 1 9 (5 11) 0 jump 0 (2) block phi 8 6 (1) (9) ult 8 1 7 (6 5) 0 if 7 (3 1) block ret 6 ()",
		"block const 8 1 11 () 9 jump 0 (1) block phi 8 5 (0 1) (2 9) add 8 1 9 (5 11) 0 ult 8 1 7 (9 5) 0 if 7 (2 1) block ret 9 ()")
	checkOne(t, "block jump 0 (2) block store 8 1 0 (3 5) 0 jump 0 (2) block phi 8 5 (0 1) (2 5) jump 0 (1)", "block jump 0 (1) block phi 8 5 (0 1) (2 5) store 8 1 0 (3 5) 0 jump 0 (1)")
	// x is a loop's last block, or its head's only comer from ahead.
	checkOne(t, "block const 8 1 11 () 9 jump 0 (3) block add 8 1 6 (5 11) 0 jump 0 (4) block ret 5 () block phi 8 5 (0 4) (2 6) ult 8 1 7 (2 5) 0 if 7 (2 1) block jump 0 (3)",
		"block const 8 1 11 () 9 jump 0 (3) block add 8 1 6 (5 11) 0 jump 0 (3) block ret 5 () block phi 8 5 (0 1) (2 6) ult 8 1 7 (2 5) 0 if 7 (2 1)")
	checkOne(t, "block const 8 1 11 () 9 jump 0 (1) block jump 0 (2) block phi 8 5 (1 2) (2 6) add 8 1 6 (5 11) 0 ult 8 1 7 (6 5) 0 if 7 (3 2) block ret 6 ()",
		"block const 8 1 11 () 9 jump 0 (1) block phi 8 5 (0 1) (2 6) add 8 1 6 (5 11) 0 ult 8 1 7 (6 5) 0 if 7 (2 1) block ret 6 ()")
}

// chain is a function of the most blocks, which go on at one another in that
// order; each asks for the phi of the one ahead.
func chain(order []int) api.Func {
	f := api.Func{Params: []int{1, 8, 64, 1}, Ret: 8, Blocks: make([]api.Block, len(order))}
	v := 2
	for i, at := range order {
		k := &f.Blocks[at]
		if i > 0 {
			k.Phis = []api.Phi{{Bits: 8, Dst: 100 + i, From: []int{order[i-1]}, Args: []int{v}}}
			v = 100 + i
		}
		k.Ops = []api.Op{{Kind: api.Add, Bits: 8, Lanes: 1, Dst: 200 + i, Args: []int{v, 2}}}
		k.End = api.End{Kind: api.Ret, Arg: v}
		if i+1 < len(order) {
			k.End = api.End{Kind: api.Jump, To: order[i+1 : i+2]}
		}
	}
	return f
}

func TestTheMostBlocks(t *testing.T) {
	rising, falling, odd := []int{0}, []int{0}, []int{0}
	for i := 1; i < api.MaxBlocks; i++ {
		rising, falling, odd = append(rising, i), append(falling, api.MaxBlocks-i), append(odd, i*37%api.MaxBlocks)
	}
	want := api.Func{Params: []int{1, 8, 64, 1}, Ret: 8, Blocks: []api.Block{{End: api.End{Kind: api.Ret, Arg: 2}}}}
	for i := range api.MaxBlocks {
		want.Blocks[0].Ops = append(want.Blocks[0].Ops, api.Op{Kind: api.Add, Bits: 8, Lanes: 1, Dst: 200 + i, Args: []int{2, 2}})
	}
	none := fn(t, "block ret 2 ()")
	for _, order := range [][]int{rising, falling, odd} {
		f := chain(order)
		if check.Check(f, api.Scalar) != api.OK {
			t.Fatalf("%v isn't right", printed(f))
		}
		if g := tidy.One(f); !code.Same(g, want) {
			t.Errorf("P16.1: One(%v): %v", printed(f), printed(g))
		}
		if g := tidy.All(f); !code.Same(g, none) {
			t.Errorf("P16.1: All(%v): %v", printed(f), printed(g))
		}
		checkAsBefore(t, f, tidy.One(f))
		checkAsBefore(t, f, tidy.All(f))
	}
}
