package tidy_test

import (
	"math/rand"
	"slices"
	"testing"

	"lockstep/api"
	"lockstep/code"
	"lockstep/tidy"
)

// lists are all lists of numbers of a function.
func lists(f *api.Func) []*[]int {
	list := []*[]int{&f.Params}
	for b := range f.Blocks {
		k := &f.Blocks[b]
		for i := range k.Phis {
			list = append(list, &k.Phis[i].From, &k.Phis[i].Args)
		}
		for i := range k.Ops {
			list = append(list, &k.Ops[i].Args)
		}
		list = append(list, &k.End.To)
	}
	return list
}

// numbers are all numbers of a function but Imm, those in lists too.
func numbers(f *api.Func) []*int {
	list := []*int{&f.Ret}
	for _, l := range lists(f) {
		for i := range *l {
			list = append(list, &(*l)[i])
		}
	}
	for b := range f.Blocks {
		k := &f.Blocks[b]
		for i := range k.Phis {
			list = append(list, &k.Phis[i].Bits, &k.Phis[i].Dst)
		}
		for i := range k.Ops {
			o := &k.Ops[i]
			list = append(list, &o.Kind, &o.Bits, &o.Lanes, &o.Dst)
		}
		list = append(list, &k.End.Kind, &k.End.Arg)
	}
	return list
}

// room stands behind a list's end, in its spare room.
var room = []int{5, 1, 7}

// spared gives a function with memory of its own, whose lists have spare room
// for more than is put behind them.
func spared(f api.Func) api.Func {
	f.Blocks = append(slices.Clone(f.Blocks), api.Block{})[:len(f.Blocks)]
	for b := range f.Blocks {
		k := &f.Blocks[b]
		k.Phis = append(slices.Clone(k.Phis), make([]api.Phi, 9)...)[:len(k.Phis)]
		k.Ops = append(slices.Clone(k.Ops), make([]api.Op, 99)...)[:len(k.Ops)]
	}
	for _, l := range lists(&f) {
		*l = append(slices.Clone(*l), room...)[:len(*l)]
	}
	return f
}

// isUntouched tells whether a function is as it was, its spare room too.
func isUntouched(f, was api.Func) bool {
	is := code.Same(f, was) && isEmpty(f.Blocks[:len(f.Blocks)+1][len(f.Blocks)])
	for _, k := range f.Blocks {
		is = is && isEmpty(api.Block{Ops: k.Ops[len(k.Ops):][:99], Phis: k.Phis[len(k.Phis):][:9]})
	}
	for _, l := range lists(&f) {
		is = is && slices.Equal((*l)[len(*l):][:len(room)], room)
	}
	return is
}

// isEmpty tells whether a block is as it is in spare room.
func isEmpty(k api.Block) bool {
	for _, o := range k.Ops {
		if o.Kind != 0 || o.Lanes != 0 || o.Dst != 0 || len(o.Args) > 0 {
			return false
		}
	}
	for _, p := range k.Phis {
		if p.Bits != 0 || len(p.From) > 0 || len(p.Args) > 0 {
			return false
		}
	}
	return k.End.Kind == 0 && k.End.Arg == 0 && len(k.End.To) == 0
}

// account is all that is told of a function.
type account struct {
	used           []int
	one, dead, all api.Func
}

func toldOf(f api.Func) account {
	return account{tidy.Used(f), tidy.One(f), tidy.Dead(f), tidy.All(f)}
}

func (x account) isSame(y account) bool {
	return slices.Equal(x.used, y.used) && code.Same(x.one, y.one) && code.Same(x.dead, y.dead) && code.Same(x.all, y.all)
}

// copied is the same with memory of its own.
func (x account) copied() account {
	return account{slices.Clone(x.used), spared(x.one), spared(x.dead), spared(x.all)}
}

// Rules 3 to 5

func TestNothingHandedInIsChanged(t *testing.T) {
	m := &maker{r: rand.New(rand.NewSource(164)), size: 24}
	for i := range 800 {
		was := m.made(1 + i%12)
		f := spared(was)
		toldOf(f)
		if !isUntouched(f, was) {
			t.Errorf("P16.1: what was handed in was changed: %v, not %v", printed(f), printed(was))
		}
	}
}

// Blocks, phis and operations that share lists aren't changed by one another.
func TestWhatSharesLists(t *testing.T) {
	f := fn(t, "block if 1 (1 2) block jump 0 (4) block jump 0 (3) block phi 8 6 (2 4) (2 5) phi 8 7 (2 4) (2 5) add 8 1 8 (7 7) 0 add 8 1 9 (7 7) 0 ret 6 () block phi 8 5 (1) (2) jump 0 (3)")
	k := &f.Blocks[3]
	k.Phis[1].From, k.Phis[1].Args = k.Phis[0].From, k.Phis[0].Args
	k.Ops[1].Args = k.Ops[0].Args
	f.Blocks[4].End.To = f.Blocks[2].End.To
	want := fn(t, "block if 1 (1 2) block jump 0 (3) block jump 0 (3) block phi 8 6 (1 2) (2 2) phi 8 7 (1 2) (2 2) add 8 1 8 (7 7) 0 add 8 1 9 (7 7) 0 ret 6 ()")
	if g := tidy.One(f); !code.Same(g, want) {
		t.Errorf("P16.1: %v", printed(g))
	}
	want = fn(t, "block if 1 (1 2) block jump 0 (3) block jump 0 (3) block phi 8 6 (1 2) (2 2) ret 6 ()")
	if g := tidy.All(f); !code.Same(g, want) {
		t.Errorf("P16.1: %v", printed(g))
	}
}

// What is told of one function hangs on nothing that was told ahead of it, nor
// on what was written over since.
func TestTheSameAgain(t *testing.T) {
	m := &maker{r: rand.New(rand.NewSource(165)), size: 24}
	var all []api.Func
	var outs []account
	for i := range 300 {
		f := m.made(1 + i%12)
		g := spared(f)
		all, outs = append(all, f), append(outs, toldOf(g).copied())
		for _, l := range lists(&g) {
			clear((*l)[:cap(*l)])
		}
		clear(g.Blocks)
	}
	for i := range all {
		i = len(all) - 1 - i
		if x := toldOf(all[i]); !x.isSame(outs[i]) {
			t.Errorf("P16.1: %v: %v, not %v", all[i], x, outs[i])
		}
	}
}
