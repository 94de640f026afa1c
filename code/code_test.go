package code_test

import (
	"bytes"
	"math"
	"slices"
	"testing"

	"lockstep/api"
	"lockstep/code"
)

const greatest = 1<<31 - 1

// sample has all that a function can have, each list of a length of its own,
// numbers of several bytes, and no two numbers alike but by chance.
func sample() api.Func {
	return api.Func{Params: []int{64, 8, 1}, Ret: 16, Blocks: []api.Block{
		{
			Ops: []api.Op{
				{Kind: api.Load, Bits: 8, Lanes: 1, Dst: 4, Args: []int{1}},
				{Kind: api.Const, Bits: 64, Lanes: 1, Dst: 5, Imm: 300},
				{Kind: api.Store, Bits: 32, Lanes: 4, Args: []int{1, 200}},
			},
			End: api.End{Kind: api.If, Arg: 3, To: []int{1, 2}},
		},
		{
			Phis: []api.Phi{
				{Bits: 8, Dst: 6, From: []int{0, 7}, Args: []int{4, 2, 9}},
				{Bits: 32, Dst: 1023, From: []int{0}, Args: []int{}},
			},
			Ops: []api.Op{{Kind: api.Select, Bits: 16, Lanes: 8, Dst: 130, Args: []int{3, 128, 127}}},
			End: api.End{Kind: api.Jump, To: []int{2}},
		},
		{End: api.End{Kind: api.Ret, Arg: 1000}},
		{End: api.End{Kind: api.Trap}},
	}}
}

// odd may be told, though nothing of it fits: layer 4 asks for no more.
func odd() api.Func {
	return api.Func{Params: []int{0, greatest}, Ret: greatest, Blocks: []api.Block{{
		Phis: []api.Phi{{Bits: 3, Dst: greatest, From: repeat(64, greatest), Args: repeat(64, 0)}, {}},
		Ops:  []api.Op{{Kind: greatest, Bits: greatest, Lanes: greatest, Dst: greatest, Args: repeat(64, 77), Imm: math.MaxUint64}, {}},
		End:  api.End{Kind: greatest, Arg: greatest, To: repeat(64, greatest)},
	}}}
}

// full is a function at the limits: parameters, blocks, phis, operations and ends.
func full() api.Func {
	f := api.Func{Params: repeat(16, 64), Ret: 1, Blocks: make([]api.Block, 64)}
	for i := range f.Blocks {
		f.Blocks[i].Phis = make([]api.Phi, i%3)
		f.Blocks[i].Ops = slices.Repeat([]api.Op{{Kind: api.Add, Bits: 8, Lanes: 16, Dst: i, Args: []int{i, 1}}}, 6-i%3)
	}
	f.Blocks[63].Ops = append(f.Blocks[63].Ops, make([]api.Op, 512-64-64*6)...)
	return f
}

func functions() []api.Func {
	return []api.Func{sample(), odd(), full(), {Blocks: make([]api.Block, 1)}, {Blocks: make([]api.Block, 64)}, five(), bulk(0, 511), bulk(511, 0), bulk(200, 311)}
}

// five is the chapter's example.
func five() api.Func {
	return api.Func{Ret: 8, Blocks: []api.Block{{Ops: []api.Op{{Kind: api.Const, Bits: 8, Lanes: 1, Dst: 1, Imm: 5}}, End: api.End{Kind: api.Ret, Arg: 1}}}}
}

// bulk has one block of so many phis and operations.
func bulk(phis, ops int) api.Func {
	return api.Func{Blocks: []api.Block{{Phis: make([]api.Phi, phis), Ops: make([]api.Op, ops)}}}
}

func repeat(n, v int) []int { return slices.Repeat([]int{v}, n) }

// deep is a function with memory of its own.
func deep(f api.Func) api.Func {
	f.Params = slices.Clone(f.Params)
	f.Blocks = slices.Clone(f.Blocks)
	for i := range f.Blocks {
		k := &f.Blocks[i]
		k.Phis, k.Ops, k.End.To = slices.Clone(k.Phis), slices.Clone(k.Ops), slices.Clone(k.End.To)
		for n := range k.Phis {
			k.Phis[n].From, k.Phis[n].Args = slices.Clone(k.Phis[n].From), slices.Clone(k.Phis[n].Args)
		}
		for n := range k.Ops {
			k.Ops[n].Args = slices.Clone(k.Ops[n].Args)
		}
	}
	return f
}

// lists are all lists of numbers of a function.
func lists(f *api.Func) []*[]int {
	l := []*[]int{&f.Params}
	for i := range f.Blocks {
		k := &f.Blocks[i]
		for n := range k.Phis {
			l = append(l, &k.Phis[n].From, &k.Phis[n].Args)
		}
		for n := range k.Ops {
			l = append(l, &k.Ops[n].Args)
		}
		l = append(l, &k.End.To)
	}
	return l
}

// fields are all numbers of a function but Imm, those in lists too.
func fields(f *api.Func) []*int {
	l := []*int{&f.Ret}
	for i := range f.Blocks {
		k := &f.Blocks[i]
		for n := range k.Phis {
			l = append(l, &k.Phis[n].Bits, &k.Phis[n].Dst)
		}
		for n := range k.Ops {
			o := &k.Ops[n]
			l = append(l, &o.Kind, &o.Bits, &o.Lanes, &o.Dst)
		}
		l = append(l, &k.End.Kind, &k.End.Arg)
	}
	for _, list := range lists(f) {
		for i := range *list {
			l = append(l, &(*list)[i])
		}
	}
	return l
}

// P4.1

func TestSize(t *testing.T) {
	for i, c := range []struct {
		f    api.Func
		size int
	}{
		{api.Func{}, 0}, {api.Func{Params: repeat(16, 8), Ret: 8}, 0}, {api.Func{Blocks: make([]api.Block, 1)}, 1}, {api.Func{Blocks: make([]api.Block, 64)}, 64},
		{five(), 2}, {sample(), 10}, {full(), 512}, {bulk(3, 5), 9}, {bulk(0, 511), 512}, {bulk(511, 0), 512}, {bulk(512, 0), 513}, {bulk(0, 512), 513},
		// It is counted of functions that may not be told, too.
		{bulk(1000, 2000), 3001}, {api.Func{Ret: -1, Blocks: make([]api.Block, 100)}, 100},
	} {
		if n := code.Size(c.f); n != c.size {
			t.Errorf("P4.1: %d: Size is %d, not %d", i, n, c.size)
		}
	}
}

func checkMay(t *testing.T, f api.Func, may bool, what string) {
	t.Helper()
	if code.May(f) != may {
		t.Errorf("P4.1: May of %s isn't %v", what, may)
	}
	if b := code.Encode(f); (len(b) > 0) != may {
		t.Errorf("P4.1: Encode of %s tells %d bytes", what, len(b))
	}
}

func TestMayOfWhatMay(t *testing.T) {
	for _, f := range functions() {
		checkMay(t, f, true, "what may")
	}
}

func TestMayOfCounts(t *testing.T) {
	for n := range 80 {
		checkMay(t, api.Func{Blocks: make([]api.Block, n)}, 1 <= n && n <= 64, "so many blocks")
		f := five()
		f.Params = repeat(n, 8)
		checkMay(t, f, n <= 16, "so many parameters")
	}
	checkMay(t, api.Func{}, false, "nothing")
	checkMay(t, api.Func{Params: []int{8}, Ret: 8}, false, "no blocks")
}

func TestMayOfSizes(t *testing.T) {
	for n := 505; n < 520; n++ {
		checkMay(t, bulk(n, 0), n < 512, "so many phis")
		checkMay(t, bulk(0, n), n < 512, "so many operations")
		checkMay(t, bulk(n-200, 200), n < 512, "so many phis and operations")
		f := bulk(n/2, n-n/2)
		f.Blocks = append(f.Blocks, f.Blocks[0], api.Block{})
		f.Blocks[0], f.Blocks[1].Phis = api.Block{}, nil
		f.Blocks[2].Phis = make([]api.Phi, n/2)
		checkMay(t, f, n+3 <= 512, "so many in three blocks")
	}
	f := api.Func{Blocks: make([]api.Block, 64)}
	f.Blocks[40].Ops = make([]api.Op, 448)
	checkMay(t, f, true, "64 ends and 448 operations")
	f.Blocks[63].Phis = make([]api.Phi, 1)
	checkMay(t, f, false, "64 ends, 448 operations and a phi")
}

func TestMayOfNumbers(t *testing.T) {
	f := sample()
	for i := range fields(&f) {
		for _, v := range []int{-1, math.MinInt32, math.MinInt, greatest + 1, 1 << 32, 1<<32 + 8, math.MaxInt} {
			g := deep(f)
			*fields(&g)[i] = v
			checkMay(t, g, false, "a number that doesn't fit")
		}
		for _, v := range []int{0, 1, 64, 65, 1023, 1024, greatest - 1, greatest} {
			g := deep(f)
			*fields(&g)[i] = v
			checkMay(t, g, true, "a number that fits")
		}
	}
}

func TestMayOfLists(t *testing.T) {
	f := sample()
	for i := range lists(&f) {
		most := 64
		if i == 0 {
			most = 16
		}
		for _, n := range []int{0, 1, 15, 16, 17, 63, 64, 65, 66, 128, 1000} {
			g := deep(f)
			*lists(&g)[i] = repeat(n, 5)
			checkMay(t, g, n <= most, "a list of so many")
		}
	}
}

func TestMayOfImm(t *testing.T) {
	for _, v := range []uint64{0, 255, greatest, greatest + 1, 1 << 32, 1 << 63, math.MaxUint64} {
		f := sample()
		f.Blocks[0].Ops[2].Imm = v
		checkMay(t, f, true, "any Imm")
	}
}

func checkEncode(t *testing.T, f api.Func, want []byte) {
	t.Helper()
	if b := code.Encode(f); !bytes.Equal(b, want) {
		t.Errorf("P4.1: Encode is %v, not %v", b, want)
	}
}

func TestEncodeByHand(t *testing.T) {
	checkEncode(t, five(), []byte{0, 8, 1, 0, 1, 0, 8, 1, 1, 0, 5, 0, 1, 0})
	checkEncode(t, api.Func{Blocks: make([]api.Block, 1)}, []byte{0, 0, 1, 0, 0, 0, 0, 0})
	checkEncode(t, api.Func{Blocks: make([]api.Block, 3)}, []byte{0, 0, 3, 0, 0, 0, 0, 0, 0, 0, 0, 0, 0, 0, 0, 0, 0, 0})
	checkEncode(t, api.Func{Params: []int{1, 2, 300}, Ret: 4, Blocks: []api.Block{{
		Phis: []api.Phi{{Bits: 5, Dst: 6, From: []int{7, 8}, Args: []int{9}}, {Bits: 10, Dst: 11, From: []int{12}}},
		Ops:  []api.Op{{Kind: 13, Bits: 14, Lanes: 15, Dst: 16, Args: []int{17, 18, 19}, Imm: 1 << 63}, {Kind: 128, Lanes: greatest}},
		End:  api.End{Kind: 20, Arg: 21, To: []int{22, 23}},
	}}}, []byte{
		3, 1, 2, 172, 2, 4, 1,
		2, 5, 6, 2, 7, 8, 1, 9, 10, 11, 1, 12, 0,
		2, 13, 14, 15, 16, 3, 17, 18, 19, 128, 128, 128, 128, 128, 128, 128, 128, 128, 1, 128, 1, 0, 255, 255, 255, 255, 7, 0, 0, 0,
		20, 21, 2, 22, 23,
	})
}

func TestEncodeOfAll(t *testing.T) {
	for _, f := range functions() {
		checkEncode(t, f, spell(marks(f)))
	}
}

func checkSame(t *testing.T, a, b api.Func, same bool, what string) {
	t.Helper()
	if code.Same(a, b) != same || code.Same(b, a) != same {
		t.Errorf("P4.1: Same of %s isn't %v", what, same)
	}
}

func TestSameOfTheSame(t *testing.T) {
	fs := append(functions(), api.Func{}, api.Func{Params: []int{-1}, Ret: -1}, bulk(1000, 1000))
	for i, f := range fs {
		checkSame(t, f, f, true, "one function")
		checkSame(t, f, deep(f), true, "a function and its like")
		for k, g := range fs {
			checkSame(t, f, g, i == k, "two functions")
		}
	}
}

func TestSameOfEmptyLists(t *testing.T) {
	a := api.Func{Blocks: []api.Block{{Phis: []api.Phi{{}}, Ops: []api.Op{{}}}}}
	b := api.Func{Params: []int{}, Blocks: []api.Block{{
		Phis: []api.Phi{{From: []int{}, Args: []int{}}},
		Ops:  []api.Op{{Args: []int{}}},
		End:  api.End{To: []int{}},
	}}}
	checkSame(t, a, b, true, "nil and empty lists")
	checkSame(t, api.Func{}, api.Func{Blocks: []api.Block{}}, true, "nil and no blocks")
	c := api.Func{Blocks: []api.Block{{Phis: []api.Phi{}, Ops: []api.Op{}}}}
	checkSame(t, api.Func{Blocks: make([]api.Block, 1)}, c, true, "nil and no phis and operations")
}

func TestSameOfOtherNumbers(t *testing.T) {
	for _, f := range []api.Func{sample(), odd()} {
		for i := range fields(&f) {
			for _, d := range []int{1, -1, 1 << 32} {
				g := deep(f)
				*fields(&g)[i] += d
				checkSame(t, f, g, false, "another number")
			}
		}
		for i := range f.Blocks {
			for n := range f.Blocks[i].Ops {
				g := deep(f)
				g.Blocks[i].Ops[n].Imm ^= 1 << 63
				checkSame(t, f, g, false, "another Imm")
			}
		}
	}
}

func TestSameOfOtherLists(t *testing.T) {
	f := sample()
	for i := range lists(&f) {
		g := deep(f)
		l := lists(&g)[i]
		*l = append(*l, 0)
		checkSame(t, f, g, false, "a longer list")
		g = deep(f)
		l = lists(&g)[i]
		*l = append([]int{9}, *l...)
		checkSame(t, f, g, false, "a list with one more ahead")
		if len(*lists(&f)[i]) > 1 {
			g = deep(f)
			slices.Reverse(*lists(&g)[i])
			checkSame(t, f, g, false, "a list the other way round")
		}
	}
}

func TestSameOfOtherBlocks(t *testing.T) {
	f := sample()
	for i := range f.Blocks {
		g := deep(f)
		g.Blocks = slices.Delete(g.Blocks, i, i+1)
		checkSame(t, f, g, false, "a block less")
		g = deep(f)
		g.Blocks[i].Phis = append(g.Blocks[i].Phis, api.Phi{})
		checkSame(t, f, g, false, "a phi more")
		g = deep(f)
		g.Blocks[i].Ops = append(g.Blocks[i].Ops, api.Op{})
		checkSame(t, f, g, false, "an operation more")
		g = deep(f)
		slices.Reverse(g.Blocks)
		checkSame(t, f, g, false, "blocks the other way round")
	}
	g := deep(f)
	g.Blocks = append(g.Blocks, api.Block{})
	checkSame(t, f, g, false, "a block more")
	checkSame(t, bulk(1, 0), bulk(0, 1), false, "a phi and an operation")
}

// Rules 2 and 3

func TestNothingHandedInIsChanged(t *testing.T) {
	f, was := sample(), sample()
	code.Size(f)
	code.May(f)
	b := code.Encode(f)
	code.Same(f, was)
	if !code.Same(f, was) {
		t.Error("P4.1: what was handed in was changed")
	}
	room := append(bytes.Clone(b), 1, 2, 3, 4)
	code.Decode(room[:len(b)])
	if !bytes.Equal(room, append(bytes.Clone(b), 1, 2, 3, 4)) {
		t.Error("P4.2: what was handed in was changed")
	}
	// The spare room of lists is left alone, too.
	spare := []int{64, 8, 1, 77, 78}
	f.Params = spare[:3]
	code.Encode(f)
	if !slices.Equal(spare, []int{64, 8, 1, 77, 78}) {
		t.Error("P4.1: spare room was changed")
	}
}

func TestNothingHandedInIsKept(t *testing.T) {
	f := sample()
	b := code.Encode(f)
	want := bytes.Clone(b)
	for _, l := range lists(&f) {
		clear(*l)
	}
	other := code.Encode(sample())
	clear(other[:cap(other)])
	if !bytes.Equal(b, want) {
		t.Error("P4.1: the bytes hang on what was handed in, or on other bytes")
	}
	g, _ := code.Decode(b)
	clear(b)
	if !code.Same(g, sample()) {
		t.Error("P4.2: the function hangs on the bytes")
	}
}

func TestNoListsOfAnAnswerAreShared(t *testing.T) {
	f, _ := code.Decode(code.Encode(sample()))
	for i, l := range lists(&f) {
		spare := (*l)[:cap(*l)]
		for n := range spare {
			spare[n] = 1000 + i
		}
	}
	for i, l := range lists(&f) {
		for _, v := range *l {
			if v != 1000+i {
				t.Fatalf("P4.2: list %d was written to by another one", i)
			}
		}
	}
}
