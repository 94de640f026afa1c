package hammock_test

import (
	"math"
	"slices"
	"strings"
	"testing"

	"lockstep/api"
	"lockstep/hammock"
	"lockstep/text"
)

// fn parses a function's text: a condition 1, a byte 2 and an address 3 are its
// parameters.
func fn(t *testing.T, blocks string) api.Func {
	t.Helper()
	f, e := text.Parse("func (1 8 64) 8 " + strings.ReplaceAll(blocks, "\t", " "))
	if e != api.OK {
		t.Fatalf("%q: %v", blocks, e)
	}
	return f
}

// What is no place of any block; some would be, if a part of their bits were
// taken for all.
func noPlaces() []int {
	return []int{-1, -2, -64, api.MaxBlocks, api.MaxBlocks + 1, 256, 1 << 32, 1<<32 + 1, math.MaxInt, math.MinInt, math.MinInt + 1}
}

// checkFound checks all that is found: of each block, of what is none, and of
// all together; and that it is, but nothing that is nearly the same.
func checkFound(t *testing.T, f api.Func, want ...api.Hammock) {
	t.Helper()
	if l := hammock.All(f); !slices.Equal(l, want) {
		t.Errorf("P14.1: All(%v): %v, not %v", f.Blocks, l, want)
	}
	for _, at := range append(noPlaces(), len(f.Blocks)) {
		checkFind(t, f, at, want)
	}
	for at := range f.Blocks {
		checkFind(t, f, at, want)
	}
	for _, h := range want {
		if !hammock.Is(f, h) {
			t.Errorf("P14.1: Is(%v, %v): false", f.Blocks, h)
		}
		for _, no := range others(h) {
			checkNone(t, f, no)
		}
	}
	checkNone(t, f, api.Hammock{})
	checkNone(t, f, api.Hammock{At: -1, Then: -1, Else: -1, Join: -1})
}

func checkFind(t *testing.T, f api.Func, at int, all []api.Hammock) {
	t.Helper()
	var want api.Hammock
	place := slices.IndexFunc(all, func(h api.Hammock) bool { return h.At == at })
	if place >= 0 {
		want = all[place]
	}
	if h, is := hammock.Find(f, at); h != want || is != (place >= 0) {
		t.Errorf("P14.1: Find(%v, %d): %v %v, not %v", f.Blocks, at, h, is, want)
	}
}

// checkNone checks what is told of a hammock that is none.
func checkNone(t *testing.T, f api.Func, h api.Hammock) {
	t.Helper()
	if hammock.Is(f, h) || hammock.Cost(f, h) != 0 || hammock.Merges(f, h) {
		t.Errorf("P14.1: %v, which is none of %v: %v %v %v", h, f.Blocks, hammock.Is(f, h), hammock.Cost(f, h), hammock.Merges(f, h))
	}
}

// others gives what is unlike a hammock in one of its places, or has two of them
// exchanged.
func others(h api.Hammock) []api.Hammock {
	var list []api.Hammock
	for _, no := range append(noPlaces(), 0, 1, 2, 3, 4, 5) {
		list = append(list, api.Hammock{At: no, Then: h.Then, Else: h.Else, Join: h.Join},
			api.Hammock{At: h.At, Then: no, Else: h.Else, Join: h.Join},
			api.Hammock{At: h.At, Then: h.Then, Else: no, Join: h.Join},
			api.Hammock{At: h.At, Then: h.Then, Else: h.Else, Join: no})
	}
	list = append(list, api.Hammock{At: h.At, Then: h.Else, Else: h.Then, Join: h.Join},
		api.Hammock{At: h.Join, Then: h.Then, Else: h.Else, Join: h.At})
	return slices.DeleteFunc(list, func(o api.Hammock) bool { return o == h })
}

// P14.1: which are found

func TestBlocksOnBothSides(t *testing.T) {
	// The chapter's example, and Then and Else exchanged.
	checkFound(t, fn(t, "block if 1 (1 2) block jump 0 (3) block jump 0 (3) block ret 2 ()"), api.Hammock{At: 0, Then: 1, Else: 2, Join: 3})
	checkFound(t, fn(t, "block if 1 (2 1) block jump 0 (3) block jump 0 (3) block ret 2 ()"), api.Hammock{At: 0, Then: 2, Else: 1, Join: 3})
	// The join has the least place of the three, and ends in another way.
	checkFound(t, fn(t, "block if 1 (3 2) block trap 0 () block jump 0 (1) block jump 0 (1)"), api.Hammock{At: 0, Then: 3, Else: 2, Join: 1})
	checkFound(t, fn(t, "block if 1 (3 2) block jump 0 (4) block jump 0 (1) block jump 0 (1) block ret 2 ()"), api.Hammock{At: 0, Then: 3, Else: 2, Join: 1})
	// The join has phis, and so has At, with operations, too; those between have operations.
	checkFound(t, fn(t, `block jump 0 (1) block phi 1 4 (0) (1) phi 8 5 (0) (2) store 8 1 0 (3 5) 0 if 4 (2 3)
		block add 8 1 6 (5 2) 0 jump 0 (4) block div 8 1 7 (5 2) 0 store 8 1 0 (3 7) 0 jump 0 (4) block phi 8 8 (2 3) (6 7) add 8 1 9 (8 2) 0 ret 9 ()`),
		api.Hammock{At: 1, Then: 2, Else: 3, Join: 4})
}

func TestABlockOnOneSide(t *testing.T) {
	checkFound(t, fn(t, "block if 1 (1 2) block jump 0 (2) block ret 2 ()"), api.Hammock{At: 0, Then: 1, Else: -1, Join: 2})
	checkFound(t, fn(t, "block if 1 (2 1) block jump 0 (2) block ret 2 ()"), api.Hammock{At: 0, Then: -1, Else: 1, Join: 2})
	checkFound(t, fn(t, "block if 1 (1 2) block ret 2 () block jump 0 (1)"), api.Hammock{At: 0, Then: -1, Else: 2, Join: 1})
	checkFound(t, fn(t, "block if 1 (2 1) block ret 2 () block jump 0 (1)"), api.Hammock{At: 0, Then: 2, Else: -1, Join: 1})
	// The join's phis are its own.
	checkFound(t, fn(t, "block if 1 (1 2) block const 8 1 4 () 5 jump 0 (2) block phi 8 5 (0 1) (2 4) ret 5 ()"), api.Hammock{At: 0, Then: 1, Else: -1, Join: 2})
	// The other way's block might be one between, but towards another join.
	checkFound(t, fn(t, "block if 1 (1 2) block jump 0 (2) block jump 0 (3) block ret 2 ()"), api.Hammock{At: 0, Then: 1, Else: -1, Join: 2})
}

func TestManyByRisingAt(t *testing.T) {
	// One behind the other, against the places.
	checkFound(t, fn(t, "block jump 0 (5) block if 1 (2 3) block jump 0 (4) block jump 0 (4) block ret 2 () block if 1 (6 7) block jump 0 (7) block if 1 (1 8) block jump 0 (1)"),
		api.Hammock{At: 1, Then: 2, Else: 3, Join: 4}, api.Hammock{At: 5, Then: 6, Else: -1, Join: 7}, api.Hammock{At: 7, Then: -1, Else: 8, Join: 1})
	// One within the other: the inner one alone has nothing else between.
	checkFound(t, fn(t, "block if 1 (1 5) block if 1 (2 3) block jump 0 (4) block jump 0 (4) block jump 0 (6) block jump 0 (6) block ret 2 ()"), api.Hammock{At: 1, Then: 2, Else: 3, Join: 4})
	// Two towards one join.
	checkFound(t, fn(t, "block if 1 (1 4) block if 1 (2 3) block jump 0 (7) block jump 0 (7) block if 1 (5 6) block jump 0 (7) block jump 0 (7) block ret 2 ()"),
		api.Hammock{At: 1, Then: 2, Else: 3, Join: 7}, api.Hammock{At: 4, Then: 5, Else: 6, Join: 7})
}

func TestNoHammocks(t *testing.T) {
	for _, blocks := range []string{
		// Without an If.
		"block ret 2 ()",
		"block jump 0 (1) block jump 0 (2) block ret 2 ()",
		// Both To are alike.
		"block if 1 (1 1) block ret 2 ()",
		"block if 1 (1 1) block jump 0 (2) block ret 2 ()",
		// Without a join.
		"block if 1 (1 2) block ret 2 () block ret 2 ()",
		"block if 1 (1 2) block jump 0 (3) block jump 0 (4) block ret 2 () block ret 2 ()",
		"block if 1 (1 2) block jump 0 (3) block trap 0 () block ret 2 ()",
		"block if 1 (1 2) block jump 0 (1) block jump 0 (2)",
		// Another one goes on at one between.
		"block if 1 (4 1) block if 1 (2 3) block jump 0 (5) block jump 0 (5) block jump 0 (2) block ret 2 ()",
		"block if 1 (1 2) block if 1 (2 3) block jump 0 (3) block ret 2 ()",
		// One goes on at itself, or both at one another.
		"block if 1 (1 2) block jump 0 (2) block jump 0 (1)",
		// One has a phi.
		"block if 1 (1 2) block phi 8 4 (0) (2) jump 0 (3) block jump 0 (3) block ret 2 ()",
		"block if 1 (1 2) block jump 0 (3) block phi 8 4 (0) (2) jump 0 (3) block ret 2 ()",
		"block if 1 (1 2) block phi 8 4 (0) (2) jump 0 (2) block ret 2 ()",
		// One ends with an If, though both its ways lead to the join.
		"block if 1 (1 2) block if 1 (3 3) block jump 0 (3) block ret 2 ()",
		"block if 1 (2 1) block if 1 (2 2) block ret 2 ()",
		// Two on one side.
		"block if 1 (1 3) block jump 0 (2) block jump 0 (4) block jump 0 (4) block ret 2 ()",
		"block if 1 (1 3) block jump 0 (2) block jump 0 (3) block ret 2 ()",
	} {
		checkFound(t, fn(t, blocks))
	}
}

func TestWhatGoesRound(t *testing.T) {
	// The join isn't At, with blocks on both sides, or on one.
	checkFound(t, fn(t, "block jump 0 (1) block if 1 (2 3) block jump 0 (1) block jump 0 (1)"))
	checkFound(t, fn(t, "block jump 0 (1) block if 1 (1 2) block jump 0 (1)"))
	checkFound(t, fn(t, "block jump 0 (1) block if 1 (2 1) block jump 0 (1)"))
	// Nor does one go on at At alone.
	checkFound(t, fn(t, "block jump 0 (1) block if 1 (1 2) block ret 2 ()"))
	// The join may be the loop's head, if that is another one.
	checkFound(t, fn(t, "block jump 0 (1) block jump 0 (2) block if 1 (3 4) block jump 0 (1) block jump 0 (1)"), api.Hammock{At: 2, Then: 3, Else: 4, Join: 1})
	checkFound(t, fn(t, "block jump 0 (1) block jump 0 (2) block if 1 (1 3) block jump 0 (1)"), api.Hammock{At: 2, Then: -1, Else: 3, Join: 1})
	// In a loop, and At its head.
	checkFound(t, fn(t, "block jump 0 (1) block if 1 (2 3) block jump 0 (4) block jump 0 (4) block if 1 (1 5) block ret 2 ()"), api.Hammock{At: 1, Then: 2, Else: 3, Join: 4})
	// The join goes on at itself, or is a loop's head of other blocks.
	checkFound(t, fn(t, "block if 1 (1 2) block jump 0 (2) block jump 0 (2)"), api.Hammock{At: 0, Then: 1, Else: -1, Join: 2})
	checkFound(t, fn(t, "block if 1 (1 2) block jump 0 (3) block jump 0 (3) block if 1 (3 4) block jump 0 (3)"), api.Hammock{At: 0, Then: 1, Else: 2, Join: 3})
}

func TestAnotherComesToTheJoin(t *testing.T) {
	checkFound(t, fn(t, "block if 1 (1 2) block jump 0 (5) block if 1 (3 4) block jump 0 (5) block jump 0 (5) block ret 2 ()"), api.Hammock{At: 2, Then: 3, Else: 4, Join: 5})
	checkFound(t, fn(t, "block if 1 (3 1) block if 1 (2 3) block jump 0 (3) block phi 8 4 (0 1 2) (2 2 2) ret 4 ()"), api.Hammock{At: 1, Then: 2, Else: -1, Join: 3})
}

// P14.1: what is wrong

func TestOfWhatIsWrong(t *testing.T) {
	h := api.Hammock{At: 0, Then: 1, Else: 2, Join: 3}
	const blocks = "block if 1 (1 2) block const 8 1 4 () 5 jump 0 (3) block add 8 1 5 (2 2) 0 jump 0 (3) block phi 8 6 (1 2) (4 5) ret 6 ()"
	checkFound(t, fn(t, blocks), h)
	for _, do := range []func(f *api.Func){
		func(f *api.Func) { f.Blocks = nil },
		func(f *api.Func) { f.Params = make([]int, 17) },
		func(f *api.Func) { f.Params[2] = 7 },
		func(f *api.Func) { f.Ret = 0 },
		func(f *api.Func) { f.Blocks[0].End.Kind = 4 },
		func(f *api.Func) { f.Blocks[0].End.Arg = 2 },
		func(f *api.Func) { f.Blocks[0].End.Arg = 99 },
		func(f *api.Func) { f.Blocks[0].End.To = []int{1} },
		func(f *api.Func) { f.Blocks[0].End.To = nil },
		func(f *api.Func) { f.Blocks[0].End.To[0] = -1 },
		func(f *api.Func) { f.Blocks[1].End.To = nil },
		func(f *api.Func) { f.Blocks[1].End.To[0] = 4 },
		func(f *api.Func) { f.Blocks[1].End.Arg = 1 },
		func(f *api.Func) { f.Blocks[1].Ops[0].Dst = 5 },
		func(f *api.Func) { f.Blocks[1].Ops[0].Lanes = 3 },
		func(f *api.Func) { f.Blocks[1].Ops[0].Kind = 23 },
		func(f *api.Func) { f.Blocks[2].Ops[0].Args[0] = 4 },
		func(f *api.Func) { f.Blocks[3].Phis[0].From[0] = 0 },
		func(f *api.Func) { f.Blocks[3].Phis[0].Args = []int{5, 4} },
		func(f *api.Func) { f.Blocks[3].End.Arg = 4 },
		// A block that can't be reached.
		func(f *api.Func) { f.Blocks = append(f.Blocks, api.Block{End: api.End{Kind: api.Trap}}) },
		// Block 0 is gone on at.
		func(f *api.Func) { f.Blocks[3].End = api.End{Kind: api.Jump, To: []int{0}} },
	} {
		f := fn(t, blocks)
		do(&f)
		checkFound(t, f)
		checkNone(t, f, h)
	}
}

func TestOfAnyNumbers(t *testing.T) {
	f := fn(t, "block if 1 (1 2) block const 8 1 4 () 5 jump 0 (3) block const 8 1 5 () 5 jump 0 (3) block ret 2 ()")
	for _, wrong := range []api.Func{{}, {Blocks: []api.Block{{}}}, f} {
		for _, a := range append(noPlaces(), 0, 1, 3, 4) {
			for _, b := range append(noPlaces(), 0, 1, 3, 4) {
				checkNone(t, wrong, api.Hammock{At: a, Then: b, Else: a, Join: b})
				checkNone(t, wrong, api.Hammock{At: a, Then: a, Else: b, Join: b})
				checkNone(t, wrong, api.Hammock{At: a, Then: b, Else: b, Join: a})
			}
		}
	}
}

// P14.1: what it costs, and whether it can be merged

func checkCost(t *testing.T, f api.Func, h api.Hammock, cost int, merges bool) {
	t.Helper()
	checkFound(t, f, h)
	if n := hammock.Cost(f, h); n != cost {
		t.Errorf("P14.1: Cost(%v, %v): %d, not %d", f.Blocks, h, n, cost)
	}
	if is := hammock.Merges(f, h); is != merges {
		t.Errorf("P14.1: Merges(%v, %v): %v", f.Blocks, h, is)
	}
}

func TestCost(t *testing.T) {
	both, then, other := api.Hammock{At: 0, Then: 1, Else: 2, Join: 3}, api.Hammock{At: 0, Then: 1, Else: -1, Join: 2}, api.Hammock{At: 0, Then: -1, Else: 1, Join: 2}
	const one, two, three = "const 8 1 4 () 5 ", "const 8 1 5 () 5 add 8 1 6 (2 5) 0 ", "store 8 1 0 (3 2) 0 const 64 1 7 () 0 div 8 1 8 (2 2) 0 "
	for _, c := range []struct {
		first, second string
		cost          int
	}{{"", "", 0}, {one, "", 1}, {"", one, 1}, {one, two, 3}, {two, three, 5}, {three, one, 4}, {one + two + three, "", 6}} {
		checkCost(t, fn(t, "block if 1 (1 2) block "+c.first+"jump 0 (3) block "+c.second+"jump 0 (3) block ret 2 ()"), both, c.cost, true)
	}
	for cost, ops := range []string{"", one, two, three} {
		checkCost(t, fn(t, "block if 1 (1 2) block "+ops+"jump 0 (2) block ret 2 ()"), then, cost, true)
		checkCost(t, fn(t, "block if 1 (2 1) block "+ops+"jump 0 (2) block ret 2 ()"), other, cost, true)
	}
	// What At and the join have isn't between, and no end, or phi, is an operation.
	checkCost(t, fn(t, "block "+three+"if 1 (1 2) block "+one+"jump 0 (3) block jump 0 (3) block phi 8 9 (1 2) (4 2) "+two+"ret 9 ()"), both, 1, true)
	checkCost(t, fn(t, "block "+three+"if 1 (1 2) block jump 0 (2) block phi 8 9 (0 1) (8 2) "+two+"ret 9 ()"), then, 0, true)
}

func TestWhatMerges(t *testing.T) {
	both := api.Hammock{At: 0, Then: 1, Else: 2, Join: 3}
	// All kinds with one lane can be merged, those that are guarded, and of width 1, too.
	scalar := `const 1 1 4 () 1 add 8 1 5 (2 2) 0 sub 8 1 6 (2 2) 0 mul 8 1 7 (2 2) 0 div 8 1 8 (2 2) 0 and 1 1 9 (1 1) 0 or 8 1 10 (2 2) 0
		xor 8 1 11 (2 2) 0 shl 8 1 12 (2 2) 0 shr 8 1 13 (2 2) 0 eq 8 1 14 (2 2) 0 ult 8 1 15 (2 2) 0 slt 8 1 16 (2 2) 0 select 8 1 17 (1 2 2) 0
		zext 64 1 18 (2) 8 trunc 8 1 19 (3) 64 load 8 1 20 (3) 0 store 8 1 0 (3 2) 0 pload 8 1 21 (1 3 2) 0 pstore 8 1 0 (1 3 2) 0 pdiv 8 1 22 (1 2 2 2) 0 `
	checkCost(t, fn(t, "block if 1 (1 2) block "+scalar+"jump 0 (3) block jump 0 (3) block ret 2 ()"), both, 21, true)
	checkCost(t, fn(t, "block if 1 (1 2) block jump 0 (3) block "+scalar+"jump 0 (3) block ret 2 ()"), both, 21, true)
	// One of more lanes is enough, on each side, at each place; a Get has those that it takes.
	for _, wide := range []string{
		"const 8 2 31 () 0 ", "const 8 16 31 () 0 ", "const 64 2 31 () 0 ", "add 8 4 31 (30 30) 0 ", "select 8 4 31 (1 30 30) 0 ",
		"load 32 4 31 (3) 0 ", "store 8 4 0 (3 30) 0 ", "pack 8 2 31 (2 2) 0 ", "get 8 4 31 (30) 3 ",
	} {
		const ahead = "block const 8 4 30 () 0 if 1 (1 2) block "
		checkCost(t, fn(t, ahead+wide+"jump 0 (3) block jump 0 (3) block ret 2 ()"), both, 1, false)
		checkCost(t, fn(t, ahead+"jump 0 (3) block "+wide+"jump 0 (3) block ret 2 ()"), both, 1, false)
		checkCost(t, fn(t, ahead+scalar+wide+"jump 0 (3) block jump 0 (3) block ret 2 ()"), both, 22, false)
		checkCost(t, fn(t, ahead+"jump 0 (3) block "+wide+scalar+"jump 0 (3) block ret 2 ()"), both, 22, false)
		checkCost(t, fn(t, ahead+wide+"jump 0 (2) block ret 2 ()"), api.Hammock{At: 0, Then: 1, Else: -1, Join: 2}, 1, false)
		checkCost(t, fn(t, "block const 8 4 30 () 0 if 1 (2 1) block "+wide+"jump 0 (2) block ret 2 ()"), api.Hammock{At: 0, Then: -1, Else: 1, Join: 2}, 1, false)
		// In At, or in the join, it isn't between.
		checkCost(t, fn(t, "block const 8 4 30 () 0 "+wide+"if 1 (1 2) block "+scalar+"jump 0 (3) block jump 0 (3) block ret 2 ()"), both, 21, true)
		checkCost(t, fn(t, ahead+"jump 0 (3) block jump 0 (3) block "+wide+"ret 2 ()"), both, 0, true)
	}
}

// The limits

// chain gives as many blocks: an If, then a block, then the If's join, which is
// the next one, and so on, by places up or down.
func chain(n int, down bool) (api.Func, []api.Hammock) {
	place := func(i int) int {
		if down && i > 0 {
			return n - i
		}
		return i
	}
	f := api.Func{Params: []int{1, 8, 64}, Ret: 8, Blocks: make([]api.Block, n)}
	var want []api.Hammock
	for i := range n {
		e := api.End{Kind: api.Ret, Arg: 2}
		switch {
		case i%2 == 1:
			e = api.End{Kind: api.Jump, To: []int{place(i + 1)}}
		case i < n-1:
			e = api.End{Kind: api.If, Arg: 1, To: []int{place(i + 1), place(i + 2)}}
			want = append(want, api.Hammock{At: place(i), Then: place(i + 1), Else: -1, Join: place(i + 2)})
		}
		f.Blocks[place(i)].End = e
	}
	slices.SortFunc(want, func(a, b api.Hammock) int { return a.At - b.At })
	return f, want
}

func TestTheMostBlocks(t *testing.T) {
	for _, n := range []int{3, 5, api.MaxBlocks - 1} {
		for _, down := range []bool{false, true} {
			f, want := chain(n, down)
			checkFound(t, f, want...)
		}
	}
	// As many as there may be; and one more.
	f, want := chain(api.MaxBlocks-1, false)
	f.Blocks[api.MaxBlocks-2].End = api.End{Kind: api.Jump, To: []int{api.MaxBlocks - 1}}
	f.Blocks = append(f.Blocks, api.Block{End: api.End{Kind: api.Ret, Arg: 2}})
	checkFound(t, f, want...)
	f, _ = chain(api.MaxBlocks+1, false)
	checkFound(t, f)
}

func TestTheMostOperations(t *testing.T) {
	h := api.Hammock{At: 0, Then: 1, Else: -1, Join: 2}
	f := fn(t, "block if 1 (1 2) block jump 0 (2) block ret 2 ()")
	most := api.MaxOps - 3
	for v := range most {
		f.Blocks[1].Ops = append(f.Blocks[1].Ops, api.Op{Kind: api.Const, Bits: 8, Lanes: 1, Dst: 4 + v})
	}
	checkCost(t, f, h, most, true)
	f.Blocks[1].Ops[most-1].Lanes = 16
	checkCost(t, f, h, most, false)
	f.Blocks[1].Ops = append(f.Blocks[1].Ops, api.Op{Kind: api.Const, Bits: 8, Lanes: 1, Dst: api.MaxValue})
	checkFound(t, f)
	checkNone(t, f, h)
}
