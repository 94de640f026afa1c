package ifconv_test

import (
	"math"
	"slices"
	"strconv"
	"strings"
	"testing"

	"lockstep/api"
	"lockstep/check"
	"lockstep/code"
	"lockstep/hammock"
	"lockstep/ifconv"
)

// P15.1: None

func TestNoHammock(t *testing.T) {
	f := fn(t, "block if 1 (1 2) block const 8 1 5 () 1 jump 0 (3) block const 8 1 6 () 2 jump 0 (3) block phi 8 7 (1 2) (5 6) ret 7 ()")
	if _, e := ifconv.Merge(f, both); e != api.OK {
		t.Errorf("P15.1: %v", e)
	}
	places := []int{-2, -1, 0, 1, 2, 3, 4, 64, 1 << 32, math.MaxInt, math.MinInt}
	for _, a := range places {
		for _, b := range places {
			for _, h := range []api.Hammock{
				{At: a, Then: b, Else: 2, Join: 3}, {At: a, Then: 1, Else: b, Join: 3}, {At: a, Then: 1, Else: 2, Join: b},
				{At: 0, Then: a, Else: b, Join: 3}, {At: 0, Then: a, Else: 2, Join: b}, {At: 0, Then: 1, Else: a, Join: b}, {At: b, Then: a, Else: a, Join: b},
			} {
				if h != both {
					checkNot(t, f, h, api.None)
				}
			}
		}
	}
}

func TestNoHammocksAtAll(t *testing.T) {
	for _, blocks := range []string{
		"block ret 2 ()",
		"block if 1 (1 1) block ret 2 ()",
		"block if 1 (1 2) block ret 2 () block ret 2 ()",
		"block if 1 (1 2) block phi 8 5 (0) (2) jump 0 (3) block jump 0 (3) block ret 2 ()",
		"block if 1 (1 2) block jump 0 (3) block jump 0 (4) block ret 2 () block ret 2 ()",
		"block jump 0 (1) block if 1 (2 3) block jump 0 (1) block jump 0 (1)",
	} {
		f := fn(t, blocks)
		for _, h := range []api.Hammock{both, then, other, {At: 1, Then: 2, Else: 3, Join: 1}, {}} {
			checkNot(t, f, h, api.None)
		}
		if g := ifconv.All(f, math.MaxInt); !code.Same(g, f) {
			t.Errorf("P15.2: All(%v): %v", f, g)
		}
	}
}

func TestOfWhatIsNotRight(t *testing.T) {
	const blocks = "block if 1 (1 2) block const 8 1 5 () 5 jump 0 (3) block load 8 1 6 (3) 0 jump 0 (3) block phi 8 7 (1 2) (5 6) ret 7 ()"
	for i, do := range []func(f *api.Func){
		func(f *api.Func) { f.Blocks = nil },
		func(f *api.Func) { f.Params = slices.Repeat([]int{8}, 17) },
		func(f *api.Func) { f.Params[2] = 8 },
		func(f *api.Func) { f.Ret = 7 },
		func(f *api.Func) { f.Blocks[0].End.Kind = -1 },
		func(f *api.Func) { f.Blocks[0].End.Arg = 8 },
		func(f *api.Func) { f.Blocks[0].End.To = nil },
		func(f *api.Func) { f.Blocks[0].End.To = []int{1, 9} },
		func(f *api.Func) { f.Blocks[1].End.Arg = 1 },
		func(f *api.Func) { f.Blocks[1].Ops[0].Dst = 6 },
		func(f *api.Func) { f.Blocks[1].Ops[0].Imm = 256 },
		func(f *api.Func) { f.Blocks[2].Ops[0].Args = nil },
		func(f *api.Func) { f.Blocks[2].Ops[0].Args = []int{5} },
		func(f *api.Func) { f.Blocks[3].Phis[0].From = []int{1} },
		func(f *api.Func) { f.Blocks[3].Phis[0].Args = nil },
		func(f *api.Func) { f.Blocks[3].Phis[0].Args[1] = 5 },
		func(f *api.Func) { f.Blocks[3].End = api.End{Kind: api.Jump, To: []int{0}} },
		func(f *api.Func) { f.Blocks = append(f.Blocks, api.Block{End: api.End{Kind: api.Trap}}) },
		// What is too great from the beginning isn't right either.
		func(f *api.Func) { f.Blocks[3].Ops = slices.Repeat([]api.Op{{Kind: api.Store}}, api.MaxOps) },
	} {
		f := fn(t, blocks)
		do(&f)
		if check.Check(f, api.Lanes) == api.OK {
			t.Fatalf("%d: right", i)
		}
		checkNot(t, f, both, api.None)
		if g := ifconv.All(f, plenty); !code.Same(g, f) {
			t.Errorf("P15.2: All(%v): %v", f, g)
		}
	}
}

func TestLanesBetween(t *testing.T) {
	const ahead = "block const 8 4 30 () 0 if 1 (1 2) block "
	for _, wide := range []string{"const 8 2 31 () 0 ", "add 8 4 31 (30 30) 0 ", "load 32 4 31 (3) 0 ", "store 8 4 0 (3 30) 0 ", "pack 8 2 31 (2 2) 0 ", "get 8 4 31 (30) 3 "} {
		for f, h := range map[string]api.Hammock{
			ahead + wide + "jump 0 (3) block jump 0 (3) block ret 2 ()":                        both,
			ahead + "jump 0 (3) block const 8 1 29 () 1 " + wide + "jump 0 (3) block ret 2 ()": both,
			ahead + wide + "jump 0 (2) block ret 2 ()":                                         then,
		} {
			checkNot(t, fn(t, f), h, api.None)
			checkAll(t, fn(t, f), plenty, fn(t, f))
		}
		// Behind the join, and ahead of the If, lanes don't matter.
		checkMerged(t, ahead+"jump 0 (3) block jump 0 (3) block "+wide+"ret 2 ()", both, "block const 8 4 30 () 0 jump 0 (1) block "+wide+"ret 2 ()")
	}
}

// P15.1: Size

func TestValuesAboveTheGreatest(t *testing.T) {
	for _, x := range []struct {
		blocks string // its greatest value is V
		h      api.Hammock
		news   int
	}{
		{"block const 8 1 V () 5 if 1 (1 2) block jump 0 (2) block ret V ()", then, 0},
		{"block if 1 (1 2) block store 8 1 0 (3 2) 0 jump 0 (2) block phi 8 V (0 1) (2 2) ret V ()", then, 0},
		{"block if 1 (1 2) block load 8 1 V (3) 0 jump 0 (2) block ret 2 ()", then, 1},
		{"block if 1 (1 2) block div 8 1 V (2 2) 0 jump 0 (3) block jump 0 (3) block ret 2 ()", both, 1},
		{"block if 1 (1 2) block pdiv 8 1 V (4 2 2 2) 0 jump 0 (3) block jump 0 (3) block ret 2 ()", both, 1},
		{"block const 8 1 V () 5 if 1 (1 2) block jump 0 (2) block phi 8 5 (0 1) (V 2) ret 5 ()", then, 1},
		{"block if 1 (1 2) block jump 0 (2) block phi 8 V (0 1) (2 2) phi 1 7 (0 1) (1 4) ret V ()", then, 1},
		{"block if 1 (2 1) block store 8 1 0 (3 2) 0 jump 0 (2) block const 8 1 V () 5 ret V ()", other, 2},
		{"block if 1 (1 2) block jump 0 (3) block load 8 1 V (3) 0 jump 0 (3) block ret 2 ()", both, 3},
		{"block if 1 (1 2) block load 8 1 5 (3) 0 jump 0 (3) block pload 8 1 V (4 3 2) 0 jump 0 (3) block phi 8 6 (1 2) (5 V) ret 6 ()", both, 5},
	} {
		for v := api.MaxValue - 8; v <= api.MaxValue; v++ {
			f := fn(t, strings.ReplaceAll(x.blocks, "V", strconv.Itoa(v)))
			if v+x.news > api.MaxValue {
				checkNot(t, f, x.h, api.Size)
				checkAll(t, f, plenty, f)
				continue
			}
			g, e := ifconv.Merge(f, x.h)
			if e != api.OK || check.Last(g) != v+x.news {
				t.Errorf("P15.1: %d new ones behind %d: %v %v", x.news, v, e, printed(g))
				continue
			}
			checkAsBefore(t, f, g)
			checkAll(t, f, plenty, g)
		}
	}
}

// filled gives a function with a hammock, with operations put into its join till
// there are so many phis, operations and ends.
func filled(t *testing.T, blocks string, join, size int) api.Func {
	f := fn(t, blocks)
	k := &f.Blocks[join]
	for v := 500; code.Size(f) < size; v++ {
		k.Ops = append(k.Ops, api.Op{Kind: api.Const, Bits: 8, Lanes: 1, Dst: v, Imm: 7})
	}
	return f
}

func TestTooManyToBeTold(t *testing.T) {
	for _, x := range []struct {
		blocks string
		h      api.Hammock
		more   int // how many more there are then
	}{
		{"block if 1 (1 2) block jump 0 (2) block ret 2 ()", then, -1},
		{"block if 1 (1 2) block jump 0 (3) block jump 0 (3) block ret 2 ()", both, -2},
		{"block if 1 (1 2) block load 8 1 5 (3) 0 jump 0 (2) block ret 2 ()", then, 0},
		{"block if 1 (1 2) block load 8 1 5 (3) 0 load 8 1 6 (3) 0 jump 0 (2) block ret 2 ()", then, 1},
		{"block if 1 (2 1) block store 8 1 0 (3 2) 0 jump 0 (2) block ret 2 ()", other, 1},
		{"block if 1 (1 2) block pload 8 1 5 (4 3 2) 0 jump 0 (3) block div 8 1 6 (2 2) 0 jump 0 (3) block phi 8 7 (1 2) (5 6) ret 7 ()", both, 3},
	} {
		for size := api.MaxOps - 4; size <= api.MaxOps; size++ {
			f := filled(t, x.blocks, x.h.Join, size)
			if size+x.more > api.MaxOps {
				checkNot(t, f, x.h, api.Size)
				checkAll(t, f, plenty, f)
				continue
			}
			g, e := ifconv.Merge(f, x.h)
			if e != api.OK || code.Size(g) != size+x.more {
				t.Errorf("P15.1: %d more than %d: %v %v", x.more, size, e, printed(g))
				continue
			}
			checkAsBefore(t, f, g)
			checkAll(t, f, plenty, g)
		}
	}
}

// What isn't there, or can't be merged, is None, however great it would be.
func TestNoneAheadOfSize(t *testing.T) {
	f := fn(t, "block const 8 4 1023 () 5 if 1 (1 2) block get 8 4 5 (1023) 0 load 8 1 6 (3) 0 jump 0 (2) block ret 2 ()")
	checkNot(t, f, then, api.None)
	f = fn(t, "block const 8 1 1023 () 5 if 1 (1 2) block load 8 1 6 (3) 0 jump 0 (2) block ret 2 ()")
	checkNot(t, f, then, api.Size)
	checkNot(t, f, other, api.None)
	f.Params[0] = 8
	checkNot(t, f, then, api.None)
}

func TestTheMostBlocks(t *testing.T) {
	// An If, then a block, then the If's join, which is the next one, and so on.
	f := api.Func{Params: []int{1, 8, 64, 1}, Ret: 8, Blocks: make([]api.Block, api.MaxBlocks-1)}
	for at := range f.Blocks {
		e := api.End{Kind: api.If, Arg: 1, To: []int{at + 1, at + 2}}
		if at%2 == 1 {
			e = api.End{Kind: api.Jump, To: []int{at + 1}}
			f.Blocks[at].Ops = []api.Op{{Kind: api.Load, Bits: 8, Lanes: 1, Dst: 4 + at, Args: []int{3}}}
		}
		f.Blocks[at].End = e
	}
	f.Blocks[api.MaxBlocks-2].End = api.End{Kind: api.Jump, To: []int{api.MaxBlocks - 1}}
	f.Blocks = append(f.Blocks, api.Block{End: api.End{Kind: api.Ret, Arg: 2}})
	n := 0
	for _, h := range hammock.All(f) {
		g, e := ifconv.Merge(f, h)
		if e != api.OK || len(g.Blocks) != api.MaxBlocks-1 {
			t.Errorf("P15.1: %v %v", h, e)
		}
		checkAsBefore(t, f, g)
		n++
	}
	if g := ifconv.All(f, 1); n != 31 || len(g.Blocks) != api.MaxBlocks-n || len(hammock.All(g)) > 0 {
		t.Errorf("P15.2: %d: %v", n, printed(g))
	}
	checkAll(t, f, 1, remadeAll(f, 1))
	checkAll(t, f, 0, f)
}
