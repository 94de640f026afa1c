package ifconv_test

import (
	"math/rand"
	"slices"
	"testing"

	"lockstep/api"
	"lockstep/code"
	"lockstep/hammock"
	"lockstep/ifconv"
)

// lists are all lists of numbers of a function.
func lists(f *api.Func) []*[]int {
	list := []*[]int{&f.Params}
	for b := range f.Blocks {
		k := &f.Blocks[b]
		for i := range k.Phis {
			list = append(list, &k.Phis[i].From, &k.Phis[i].Args)
		}
		for i := range k.Ops {
			list = append(list, &k.Ops[i].Args)
		}
		list = append(list, &k.End.To)
	}
	return list
}

// numbers are all numbers of a function but Imm, those in lists too.
func numbers(f *api.Func) []*int {
	list := []*int{&f.Ret}
	for _, l := range lists(f) {
		for i := range *l {
			list = append(list, &(*l)[i])
		}
	}
	for b := range f.Blocks {
		k := &f.Blocks[b]
		for i := range k.Phis {
			list = append(list, &k.Phis[i].Bits, &k.Phis[i].Dst)
		}
		for i := range k.Ops {
			o := &k.Ops[i]
			list = append(list, &o.Kind, &o.Bits, &o.Lanes, &o.Dst)
		}
		list = append(list, &k.End.Kind, &k.End.Arg)
	}
	return list
}

// room stands behind a list's end, in its spare room.
var room = []int{5, 1, 7}

// spared gives a function with memory of its own, whose lists have spare room
// for more than a merge puts behind them.
func spared(f api.Func) api.Func {
	f.Blocks = append(slices.Clone(f.Blocks), api.Block{})[:len(f.Blocks)]
	for b := range f.Blocks {
		k := &f.Blocks[b]
		k.Phis = append(slices.Clone(k.Phis), make([]api.Phi, 9)...)[:len(k.Phis)]
		k.Ops = append(slices.Clone(k.Ops), make([]api.Op, 99)...)[:len(k.Ops)]
	}
	for _, l := range lists(&f) {
		*l = append(slices.Clone(*l), room...)[:len(*l)]
	}
	return f
}

// isUntouched tells whether a function is as it was, its spare room too.
func isUntouched(f, was api.Func) bool {
	is := code.Same(f, was) && isEmpty(f.Blocks[:len(f.Blocks)+1][len(f.Blocks)])
	for _, k := range f.Blocks {
		is = is && isEmpty(api.Block{Ops: k.Ops[len(k.Ops):][:99], Phis: k.Phis[len(k.Phis):][:9]})
	}
	for _, l := range lists(&f) {
		is = is && slices.Equal((*l)[len(*l):][:len(room)], room)
	}
	return is
}

// isEmpty tells whether a block is as it is in spare room.
func isEmpty(k api.Block) bool {
	for _, o := range k.Ops {
		if o.Kind != 0 || o.Lanes != 0 || o.Dst != 0 || len(o.Args) > 0 {
			return false
		}
	}
	for _, p := range k.Phis {
		if p.Bits != 0 || len(p.From) > 0 || len(p.Args) > 0 {
			return false
		}
	}
	return k.End.Kind == 0 && k.End.Arg == 0 && len(k.End.To) == 0
}

// madeBoth gives the functions that are made of one: by its first hammock, and by
// all.
func madeBoth(f api.Func) [2]api.Func {
	h, _ := hammock.Find(f, firstAt(f))
	g, _ := ifconv.Merge(f, h)
	return [2]api.Func{g, ifconv.All(f, 99)}
}

func firstAt(f api.Func) int {
	for _, h := range hammock.All(f) {
		return h.At
	}
	return 0
}

// areSame tells whether two functions are the same as two others.
func areSame(a, b [2]api.Func) bool { return code.Same(a[0], b[0]) && code.Same(a[1], b[1]) }

// copied gives functions with memory of their own.
func copied(list [2]api.Func) [2]api.Func { return [2]api.Func{spared(list[0]), spared(list[1])} }

// Rules 3 to 5

func TestNothingHandedInIsChanged(t *testing.T) {
	m := &maker{r: rand.New(rand.NewSource(154)), size: 24}
	merged := 0
	for i := range 600 {
		was := m.made(1 + i%12)
		f := spared(was)
		if g := madeBoth(f); len(g[0].Blocks) > 0 {
			merged++
		}
		if !isUntouched(f, was) {
			t.Errorf("P15.1: what was handed in was changed: %v, not %v", printed(f), printed(was))
		}
	}
	if merged < 200 {
		t.Errorf("P15.1: too few merged: %d", merged)
	}
}

// Phis, and operations, that share a list aren't changed by one another.
func TestWhatSharesLists(t *testing.T) {
	f := fn(t, "block jump 0 (2) block jump 0 (4) block if 1 (1 3) block jump 0 (4) block phi 8 5 (1 3) (2 2) phi 8 6 (1 3) (2 2) add 8 1 7 (5 6) 0 ret 7 ()")
	k := &f.Blocks[4]
	k.Phis[1] = api.Phi{Bits: 8, Dst: 6, From: k.Phis[0].From, Args: k.Phis[0].Args}
	g, e := ifconv.Merge(f, api.Hammock{At: 2, Then: 1, Else: 3, Join: 4})
	if want := fn(t, "block jump 0 (1) block jump 0 (2) block phi 8 5 (1) (2) phi 8 6 (1) (2) add 8 1 7 (5 6) 0 ret 7 ()"); e != api.OK || !code.Same(g, want) {
		t.Errorf("P15.1: %v %v", e, printed(g))
	}
}

// What is made of one function hangs on nothing that was made ahead of it, nor
// on what was written over since.
func TestTheSameAgain(t *testing.T) {
	m := &maker{r: rand.New(rand.NewSource(155)), size: 24}
	var all []api.Func
	var outs [][2]api.Func
	for i := range 200 {
		f := m.made(1 + i%12)
		g := spared(f)
		all, outs = append(all, f), append(outs, copied(madeBoth(g)))
		for _, l := range lists(&g) {
			clear((*l)[:cap(*l)])
		}
		clear(g.Blocks)
	}
	for i := range all {
		i = len(all) - 1 - i
		if g := madeBoth(all[i]); !areSame(g, outs[i]) {
			t.Errorf("P15.1: %v: %v, not %v", all[i], g, outs[i])
		}
	}
}
