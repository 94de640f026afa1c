package eval_test

import (
	"bytes"
	"math"
	"slices"
	"strconv"
	"strings"
	"testing"

	"lockstep/api"
	"lockstep/check"
	"lockstep/eval"
	"lockstep/mem"
	"lockstep/text"
)

// fn is the function of a text.
func fn(t *testing.T, s string) api.Func {
	t.Helper()
	f, e := text.Parse(s)
	if e != api.OK {
		t.Fatalf("%q: %v", s, e)
	}
	return f
}

func made(t *testing.T, b []byte) *mem.Mem {
	t.Helper()
	m, e := mem.New(b)
	if e != api.OK {
		t.Fatalf("%d bytes: %v", len(b), e)
	}
	return m
}

// counted gives n bytes: 1, 2, and so on, round at 256.
func counted(n int) []byte {
	b := make([]byte, n)
	for i := range b {
		b[i] = byte(i + 1)
	}
	return b
}

// given is what is handed in, but for a memory with these bytes.
type given struct {
	f     api.Func
	args  []uint64
	bytes []byte
	fuel  int
}

// came is what comes out: of the function, and of the memory.
type came struct {
	run   api.Run
	bytes []byte
	trace []api.Touch
}

func returned(v uint64, steps int) api.Run {
	return api.Run{Code: api.OK, Value: v, Steps: steps}
}

func trapped(steps int) api.Run { return api.Run{Code: api.Trapped, Steps: steps} }

func dry(steps int) api.Run { return api.Run{Code: api.Fuel, Steps: steps} }

// plenty is more fuel than any function here takes that finishes.
const plenty = 10000

func ran(t *testing.T, g given) came {
	t.Helper()
	m := made(t, g.bytes)
	r, e := eval.Run(g.f, g.args, m, g.fuel)
	if e != api.OK {
		t.Errorf("P13.1: Run(%v): %v", g, e)
	}
	return came{r, m.Bytes(), m.Trace()}
}

func (c came) same(d came) bool {
	return c.run == d.run && bytes.Equal(c.bytes, d.bytes) && slices.Equal(c.trace, d.trace)
}

func checkRun(t *testing.T, g given, want came) {
	t.Helper()
	if got := ran(t, g); !got.same(want) {
		t.Errorf("P13.1: Run(%v): %v, not %v", g, got, want)
	}
}

// checkText checks the run of a text's function, that touches nothing.
func checkText(t *testing.T, s string, args []uint64, want api.Run) {
	t.Helper()
	checkRun(t, given{fn(t, s), args, nil, plenty}, came{run: want})
}

// checkArg checks that nothing is done.
func checkArg(t *testing.T, g given) {
	t.Helper()
	m := made(t, g.bytes)
	if r, e := eval.Run(g.f, g.args, m, g.fuel); e != api.Arg || r != (api.Run{}) {
		t.Errorf("P13.1: Run(%v): %v %v, not Arg", g, r, e)
	}
	if !bytes.Equal(m.Bytes(), g.bytes) || len(m.Trace()) > 0 {
		t.Errorf("P13.1: Run(%v) touched %v", g, m.Trace())
	}
}

func reads(at uint64, b ...byte) []api.Touch { return touches(false, at, b) }

func writes(at uint64, b ...byte) []api.Touch { return touches(true, at, b) }

func touches(write bool, at uint64, b []byte) []api.Touch {
	var list []api.Touch
	for i, x := range b {
		list = append(list, api.Touch{Write: write, At: at + uint64(i), Byte: x})
	}
	return list
}

// P13.1: what is told

func TestTheExample(t *testing.T) {
	checkText(t, "func () 8 block const 8 1 1 () 200 const 8 1 2 () 100 add 8 1 3 (1 2) 0 ret 3 ()", nil, returned(44, 4))
}

func TestArgumentsAreCut(t *testing.T) {
	for i, want := range []uint64{1, 0xff, 0xffff, 0xffff_ffff, math.MaxUint64} {
		width := strconv.Itoa([]int{1, 8, 16, 32, 64}[i])
		s := "func (1 8 16 32 64) " + width + " block ret " + strconv.Itoa(i+1) + " ()"
		checkText(t, s, slices.Repeat([]uint64{math.MaxUint64}, 5), returned(want, 1))
		checkText(t, s, slices.Repeat([]uint64{math.MaxUint64 - 1}, 5), returned(want-1, 1))
		checkText(t, s, slices.Repeat([]uint64{1 << 63}, 5), returned([]uint64{0, 0, 0, 0, 1 << 63}[i], 1))
		// Each is its own.
		checkText(t, s, []uint64{5, 6, 7, 8, 9}, returned([]uint64{1, 6, 7, 8, 9}[i], 1))
	}
	// What is cut is what is asked, too.
	checkText(t, "func (1 8 8) 8 block if 1 (1 2) block ret 2 () block ret 3 ()", []uint64{3, 4, 5}, returned(4, 2))
	checkText(t, "func (1 8 8) 8 block if 1 (1 2) block ret 2 () block ret 3 ()", []uint64{2, 4, 5}, returned(5, 2))
}

func TestSixteenArguments(t *testing.T) {
	args := make([]uint64, api.MaxParams)
	for i := range args {
		args[i] = uint64(i * i)
	}
	for i, want := range args {
		s := "func (" + strings.Repeat("64 ", api.MaxParams) + ") 64 block ret " + strconv.Itoa(i+1) + " ()"
		checkText(t, s, args, returned(want, 1))
	}
}

func TestEnds(t *testing.T) {
	checkText(t, "func () 8 block trap 0 ()", nil, trapped(1))
	checkText(t, "func () 8 block const 8 1 1 () 5 trap 0 ()", nil, trapped(2))
	checkText(t, "func (8) 8 block jump 0 (2) block ret 1 () block jump 0 (1)", []uint64{7}, returned(7, 3))
	two := "func (1 8 8) 8 block if 1 (2 1) block ret 2 () block trap 0 ()"
	checkText(t, two, []uint64{0, 6, 7}, returned(6, 2))
	checkText(t, two, []uint64{1, 6, 7}, trapped(2))
	// One block's two ways on may be one.
	same := "func (1) 1 block if 1 (1 1) block phi 1 2 (0) (1) ret 2 ()"
	checkText(t, same, []uint64{0}, returned(0, 2))
	checkText(t, same, []uint64{1}, returned(1, 2))
}

// What is returned is told beside OK alone.
func TestZeroBesideATrap(t *testing.T) {
	s := "func (8) 8 block jump 0 (1) block phi 8 2 (0) (1) div 8 1 3 (1 2) 0 div 8 1 4 (3 3) 0 ret 3 ()"
	checkText(t, s, []uint64{9}, returned(1, 4))
	checkText(t, s, []uint64{0}, trapped(2))
	checkRun(t, given{fn(t, s), []uint64{9}, nil, 3}, came{run: dry(3)})
}

// P13.1: phis

func TestPhisByWhereOneComesFrom(t *testing.T) {
	s := "func (1 1) 8 block const 8 1 6 () 60 if 1 (1 2) block if 2 (3 4) " +
		"block const 8 1 3 () 30 jump 0 (4) block const 8 1 4 () 40 jump 0 (4) " +
		"block phi 8 5 (1 2 3) (6 3 4) ret 5 ()"
	checkText(t, s, []uint64{1, 1}, returned(40, 6))
	checkText(t, s, []uint64{1, 0}, returned(60, 4))
	checkText(t, s, []uint64{0, 0}, returned(30, 5))
	checkText(t, s, []uint64{0, 1}, returned(30, 5))
}

// swaps goes round so many times; two phis are one another's then.
const swaps = "func (8 16 16) 16 block const 8 1 10 () 0 const 8 1 11 () 1 jump 0 (1) " +
	"block phi 16 4 (0 2) (2 5) phi 16 5 (0 2) (3 4) phi 8 6 (0 2) (1 7) eq 8 1 8 (6 10) 0 if 8 (3 2) " +
	"block sub 8 1 7 (6 11) 0 jump 0 (1) block ret 4 ()"

func TestPhisAreAtOnce(t *testing.T) {
	for n := range uint64(5) {
		want := []uint64{100, 200}[n%2]
		checkText(t, swaps, []uint64{n, 100, 200}, returned(want, 3+2+4*int(n)+1))
	}
	// Three of them, handed round.
	ring := "func (1 8 8 8) 8 block jump 0 (1) block phi 8 5 (0 1) (2 6) phi 8 6 (0 1) (3 7) phi 8 7 (0 1) (4 5) phi 1 8 (0 1) (1 9) eq 8 1 9 (5 4) 0 if 9 (2 1) block ret 7 ()"
	checkText(t, ring, []uint64{0, 10, 20, 30}, returned(20, 1+3*2+1))
	// A phi that stays as it is.
	stays := "func (1 8) 8 block jump 0 (1) block phi 8 3 (0 1) (2 3) phi 1 4 (0 1) (1 5) const 1 1 5 () 0 if 4 (1 2) block ret 3 ()"
	checkText(t, stays, []uint64{1, 77}, returned(77, 1+2*2+1))
}

// What a phi was isn't what it becomes, though an operation behind it took it.
func TestValuesOfTheRoundBefore(t *testing.T) {
	s := "func (8) 8 block const 8 1 2 () 0 const 8 1 3 () 1 jump 0 (1) " +
		"block phi 8 4 (0 1) (1 5) phi 8 6 (0 1) (2 4) phi 8 7 (0 1) (2 6) sub 8 1 5 (4 3) 0 eq 8 1 8 (4 2) 0 if 8 (2 1) block ret 7 ()"
	checkText(t, s, []uint64{9}, returned(2, 3+10*3+1))
}

// Nothing goes on at block 0, so no block says what a phi there is; it is right.
func TestPhisOfTheFirstBlock(t *testing.T) {
	checkText(t, "func () 8 block phi 8 1 () () ret 1 ()", nil, returned(0, 1))
	checkText(t, "func (8) 8 block phi 8 9 () () phi 1 2 () () add 8 1 3 (9 1) 0 if 2 (1 2) block trap 0 () block ret 3 ()", []uint64{5}, returned(5, 3))
}

// P13.1: fuel

// counts goes round as often as its argument says, and stores each time.
const counts = "func (8 64) 8 block const 8 1 3 () 0 const 8 1 4 () 1 jump 0 (1) " +
	"block phi 8 5 (0 2) (1 7) eq 8 1 6 (5 3) 0 if 6 (3 2) block sub 8 1 7 (5 4) 0 store 8 1 0 (2 7) 0 jump 0 (1) block ret 5 ()"

func TestFuel(t *testing.T) {
	f := fn(t, counts)
	want := []struct {
		steps int
		left  byte
	}{{0, 99}, {1, 99}, {2, 99}, {3, 99}, {4, 99}, {5, 99}, {6, 99}, {7, 1}, {8, 1}, {9, 1}, {10, 1}, {11, 1}, {12, 0}, {13, 0}, {14, 0}, {15, 0}}
	var trace []api.Touch
	for _, w := range want {
		if w.steps == 7 || w.steps == 12 {
			trace = append(trace, writes(1, w.left)...)
		}
		checkRun(t, given{f, []uint64{2, 1}, []byte{99, 99}, w.steps}, came{dry(w.steps), []byte{99, w.left}, trace})
	}
	for _, fuel := range []int{16, 17, 18, 100, math.MaxInt32, math.MaxInt} {
		checkRun(t, given{f, []uint64{2, 1}, []byte{99, 99}, fuel}, came{returned(0, 16), []byte{99, 0}, trace})
	}
}

// A trap takes a step, so that with a step less it isn't come to.
func TestFuelAheadOfATrap(t *testing.T) {
	for _, s := range []string{
		"func () 8 block const 8 1 1 () 0 const 8 1 2 () 1 div 8 1 3 (2 1) 0 ret 3 ()",
		"func () 8 block const 8 1 1 () 0 const 64 1 2 () 3 store 8 1 0 (2 1) 0 ret 1 ()",
		"func () 8 block const 8 1 1 () 0 const 64 1 2 () 3 load 8 1 3 (2) 0 ret 1 ()",
		"func () 8 block const 8 1 1 () 0 const 8 1 2 () 1 trap 0 ()",
		"func () 8 block const 8 1 1 () 0 jump 0 (1) block trap 0 ()",
	} {
		for fuel := range 3 {
			checkRun(t, given{fn(t, s), nil, nil, fuel}, came{run: dry(fuel)})
		}
		for _, fuel := range []int{3, 4, math.MaxInt} {
			checkRun(t, given{fn(t, s), nil, nil, fuel}, came{run: trapped(3)})
		}
	}
}

func TestRoundAndRound(t *testing.T) {
	for _, fuel := range []int{0, 1, 2, 1000, 1001, 100000} {
		checkRun(t, given{fn(t, "func () 8 block jump 0 (1) block jump 0 (1)"), nil, nil, fuel}, came{run: dry(fuel)})
	}
	s := "func (1 64) 64 block jump 0 (1) block if 1 (1 2) block ret 2 ()"
	for _, fuel := range []int{0, 1, 2, 1000, 1001, 100000} {
		checkRun(t, given{fn(t, s), []uint64{1, 5}, nil, fuel}, came{run: dry(fuel)})
	}
	checkText(t, s, []uint64{0, 5}, returned(5, 3))
}

// P13.1: wrong arguments

// stores are the beginning of functions that would store, if they were right.
const stores = "func (64 8) 8 block store 8 1 0 (1 2) 0 "

// checkNotRight checks what is wrong with a function, and that it isn't run.
func checkNotRight(t *testing.T, f api.Func, want api.Code) {
	t.Helper()
	if e := check.Check(f, api.Lanes); e != want {
		t.Errorf("%v: %v, not %v", f, e, want)
	}
	checkArg(t, given{f, make([]uint64, len(f.Params)), []byte{9}, plenty})
}

func TestFunctionsThatAreNotRight(t *testing.T) {
	for s, want := range map[string]api.Code{
		stores + "jump 0 (0)":                                  api.Shape,
		stores + "jump 0 (2)":                                  api.Shape,
		stores + "jump 1 (1) block ret 2 ()":                   api.Shape,
		stores + "trap 2 ()":                                   api.Shape,
		stores + "ret 2 () block ret 2 ()":                     api.Shape,
		stores + "jump 0 (1) block phi 8 3 (1) (2) ret 3 ()":   api.Shape,
		stores + "jump 0 (1) block phi 8 3 (0) (2 2) ret 3 ()": api.Shape,
		"func (64 7) 8 block store 8 1 0 (1 2) 0 ret 2 ()":     api.Typed,
		"func (64 8) 7 block store 8 1 0 (1 2) 0 ret 2 ()":     api.Typed,
		"func (64 8) 16 block store 8 1 0 (1 2) 0 ret 2 ()":    api.Typed,
		stores + "const 8 1 3 () 256 ret 3 ()":                 api.Typed,
		stores + "const 8 1 1024 () 7 ret 2 ()":                api.Typed,
		stores + "add 8 32 3 (2 2) 0 ret 2 ()":                 api.Typed,
		stores + "select 8 1 3 (2 2 2) 0 ret 3 ()":             api.Typed,
		stores + "load 8 1 3 (2) 0 ret 3 ()":                   api.Typed,
		stores + "pdiv 8 1 3 (2 2 2 2) 0 ret 3 ()":             api.Typed,
		stores + "pack 8 2 3 (2 2) 0 get 8 2 4 (3) 2 ret 4 ()": api.Typed,
		stores + "pack 8 2 3 (2 2) 0 ret 3 ()":                 api.Typed,
		stores + "if 2 (1 1) block ret 2 ()":                   api.Typed,
		stores + "if 0 (1 1) block ret 2 ()":                   api.Defined,
		stores + "ret 3 ()":                                    api.Defined,
		stores + "const 8 1 2 () 7 ret 2 ()":                   api.Defined,
		stores + "add 8 1 3 (4 2) 0 const 8 1 4 () 1 ret 3 ()": api.Defined,
		"func (64 8 1) 8 block store 8 1 0 (1 2) 0 if 3 (1 2) block const 8 1 4 () 5 jump 0 (2) block ret 4 ()": api.Defined,
	} {
		checkNotRight(t, fn(t, s), want)
	}
}

// What has no text, or may not be told, isn't right either.
func TestFunctionsThatHaveNoText(t *testing.T) {
	checkNotRight(t, api.Func{}, api.Size)
	f := fn(t, stores+"const 8 1 3 () 1 ret 2 ()")
	f.Params = append(f.Params, slices.Repeat([]int{8}, api.MaxParams)...)
	checkNotRight(t, f, api.Size)
	for kind, want := range map[int]api.Code{-1: api.Size, 24: api.Typed, 1000: api.Typed} {
		f = fn(t, stores+"const 8 1 3 () 1 ret 2 ()")
		f.Blocks[0].Ops[1].Kind = kind
		checkNotRight(t, f, want)
	}
	for kind, want := range map[int]api.Code{-1: api.Size, 4: api.Shape, math.MaxInt: api.Size} {
		f = fn(t, stores+"ret 2 ()")
		f.Blocks[0].End.Kind = kind
		checkNotRight(t, f, want)
	}
	f = fn(t, stores+"ret 2 ()")
	f.Blocks[0].Ops = slices.Repeat(f.Blocks[0].Ops, api.MaxOps)
	checkNotRight(t, f, api.Size)
}

// Functions of each level are right.
func TestEachLevel(t *testing.T) {
	checkText(t, "func (8) 8 block mul 8 1 2 (1 1) 0 ret 2 ()", []uint64{7}, returned(49, 2))
	checkText(t, "func (1 8) 8 block pdiv 8 1 3 (1 2 2 2) 0 ret 3 ()", []uint64{1, 7}, returned(1, 2))
	checkText(t, "func (8) 8 block pack 8 2 2 (1 1) 0 mul 8 2 3 (2 2) 0 get 8 2 4 (3) 1 ret 4 ()", []uint64{7}, returned(49, 4))
}

func TestAnotherNumberOfArguments(t *testing.T) {
	for n := range 4 {
		s := "func (" + strings.Repeat("64 ", n) + ") 64 block const 64 1 9 () 0 const 8 1 8 () 5 store 8 1 0 (9 8) 0 ret 9 ()"
		for m := range 6 {
			g := given{fn(t, s), make([]uint64, m), []byte{3}, plenty}
			if m != n {
				checkArg(t, g)
				continue
			}
			checkRun(t, g, came{returned(0, 4), []byte{5}, writes(0, 5)})
		}
	}
}

func TestFuelBelowZero(t *testing.T) {
	for _, fuel := range []int{-1, -2, -1000, math.MinInt32, math.MinInt} {
		checkArg(t, given{fn(t, counts), []uint64{2, 1}, []byte{1, 2, 3}, fuel})
		checkArg(t, given{fn(t, "func () 8 block trap 0 ()"), nil, nil, fuel})
	}
}

// P13.1: the greatest functions

func TestTheGreatestFunctions(t *testing.T) {
	// As many steps as there may be, with the greatest numbers of values.
	f := api.Func{Params: []int{16}, Ret: 16, Blocks: []api.Block{{}}}
	last := 1
	for i := range api.MaxOps - 1 {
		f.Blocks[0].Ops = append(f.Blocks[0].Ops, api.Op{Kind: api.Add, Bits: 16, Lanes: 1, Dst: api.MaxValue - i, Args: []int{last, 1}})
		last = api.MaxValue - i
	}
	f.Blocks[0].End = api.End{Kind: api.Ret, Arg: last}
	checkRun(t, given{f, []uint64{3}, nil, plenty}, came{run: returned(3*api.MaxOps, api.MaxOps)})
	// As many blocks, gone through from the last one on.
	f = api.Func{Params: []int{16}, Ret: 16, Blocks: []api.Block{{End: api.End{Kind: api.Jump, To: []int{api.MaxBlocks - 1}}}, {End: api.End{Arg: 1}}}}
	for at := 2; at < api.MaxBlocks; at++ {
		f.Blocks = append(f.Blocks, api.Block{End: api.End{Kind: api.Jump, To: []int{at - 1}}})
	}
	checkRun(t, given{f, []uint64{3}, nil, plenty}, came{run: returned(3, api.MaxBlocks)})
}
