package sched_test

import (
	"math/rand"
	"slices"
	"testing"

	"lockstep/api"
	"lockstep/code"
	"lockstep/sched"
)

// lists are all lists of numbers of a function.
func lists(f *api.Func) []*[]int {
	list := []*[]int{&f.Params}
	for b := range f.Blocks {
		k := &f.Blocks[b]
		for i := range k.Phis {
			list = append(list, &k.Phis[i].From, &k.Phis[i].Args)
		}
		for i := range k.Ops {
			list = append(list, &k.Ops[i].Args)
		}
		list = append(list, &k.End.To)
	}
	return list
}

// numbers are all numbers of a function but Imm, those in lists too.
func numbers(f *api.Func) []*int {
	list := []*int{&f.Ret}
	for _, l := range lists(f) {
		for i := range *l {
			list = append(list, &(*l)[i])
		}
	}
	for b := range f.Blocks {
		k := &f.Blocks[b]
		for i := range k.Phis {
			list = append(list, &k.Phis[i].Bits, &k.Phis[i].Dst)
		}
		for i := range k.Ops {
			o := &k.Ops[i]
			list = append(list, &o.Kind, &o.Bits, &o.Lanes, &o.Dst)
		}
		list = append(list, &k.End.Kind, &k.End.Arg)
	}
	return list
}

// room stands behind a list's end, in its spare room.
var room = []int{5, 1, 7}

// spared gives a function with memory of its own, whose lists have spare room.
func spared(f api.Func) api.Func {
	f.Blocks = append(slices.Clone(f.Blocks), api.Block{})[:len(f.Blocks)]
	for b := range f.Blocks {
		k := &f.Blocks[b]
		k.Phis = append(slices.Clone(k.Phis), api.Phi{})[:len(k.Phis)]
		k.Ops = append(slices.Clone(k.Ops), api.Op{})[:len(k.Ops)]
	}
	for _, l := range lists(&f) {
		*l = append(slices.Clone(*l), room...)[:len(*l)]
	}
	return f
}

// isUntouched tells whether a function is as it was, its spare room too.
func isUntouched(f, was api.Func) bool {
	is := code.Same(f, was)
	last := f.Blocks[:len(f.Blocks)+1][len(f.Blocks)]
	is = is && len(last.Ops) == 0 && len(last.Phis) == 0 && len(last.End.To) == 0
	for _, k := range f.Blocks {
		o := k.Ops[:len(k.Ops)+1][len(k.Ops)]
		is = is && o.Dst == 0 && o.Lanes == 0 && len(o.Args) == 0
	}
	for _, l := range lists(&f) {
		is = is && slices.Equal((*l)[len(*l):][:len(room)], room)
	}
	return is
}

// account is all that is told of a block, and what becomes of it by an order.
type account struct {
	hangs       [][]int
	flat, depth []int
	legal       bool
	put         api.Func
	code        api.Code
}

func toldOf(f api.Func, block int, order []int) account {
	var x account
	for at := range f.Blocks[block].Ops {
		x.hangs = append(x.hangs, sched.Hangs(f, block, at))
	}
	x.flat, x.depth = sched.Flat(f, block), sched.Depth(f, block)
	x.legal = sched.Legal(f, block, order)
	x.put, x.code = sched.Put(f, block, order)
	return x
}

func (x account) isSame(y account) bool {
	return slices.EqualFunc(x.hangs, y.hangs, slices.Equal) && slices.Equal(x.flat, y.flat) && slices.Equal(x.depth, y.depth) &&
		x.legal == y.legal && x.code == y.code && code.Same(x.put, y.put)
}

// copied is the same with memory of its own.
func (x account) copied() account {
	x.hangs = slices.Clone(x.hangs)
	for at, list := range x.hangs {
		x.hangs[at] = slices.Clone(list)
	}
	x.flat, x.depth, x.put = slices.Clone(x.flat), slices.Clone(x.depth), spared(x.put)
	return x
}

// spoil writes over all lists that are told, and that only an answer has.
func (x account) spoil() {
	for _, list := range append(x.hangs, x.flat, x.depth) {
		list = list[:cap(list)]
		for i := range list {
			list[i] = -7
		}
	}
}

// someOrder gives a block of a function, and an order of it that is mostly legal.
func (m *maker) someOrder(f api.Func) (int, []int) {
	block := m.r.Intn(len(f.Blocks))
	order := m.legalOrder(f, block)
	if len(order) > 0 && m.r.Intn(4) == 0 {
		order[m.r.Intn(len(order))] = m.r.Intn(len(order)+2) - 1
	}
	return block, append(order, room...)[:len(order)]
}

// Rules 3 to 5

func TestNothingHandedInIsChanged(t *testing.T) {
	m := &maker{r: rand.New(rand.NewSource(194)), size: 24}
	for i := range 400 {
		was := m.made(1+i%6, 8)
		f := spared(was)
		block, order := m.someOrder(f)
		asked := slices.Clone(order)
		x := toldOf(f, block, order)
		if !isUntouched(f, was) || !slices.Equal(order, asked) || !slices.Equal(order[len(order):][:len(room)], room) {
			t.Errorf("P19.2: what was handed in was changed: %v %v, not %v %v", printed(f), order, printed(was), asked)
		}
		x.spoil()
		if !isUntouched(f, was) || !slices.Equal(order, asked) {
			t.Errorf("P19.1: what was told has memory of what was handed in: %v %v, not %v %v", printed(f), order, printed(was), asked)
		}
	}
}

// What is told hangs on nothing that was told ahead of it, nor on what was
// written over since.
func TestTheSameAgain(t *testing.T) {
	type asked struct {
		f     api.Func
		block int
		order []int
		told  account
	}
	m := &maker{r: rand.New(rand.NewSource(195)), size: 24}
	var all []asked
	for i := range 300 {
		f := m.made(1+i%6, 8)
		block, order := m.someOrder(f)
		g, o := spared(f), slices.Clone(order)
		x := toldOf(g, block, o)
		all = append(all, asked{f, block, order, x.copied()})
		for _, l := range lists(&g) {
			clear((*l)[:cap(*l)])
		}
		clear(g.Blocks)
		clear(o)
		x.spoil()
	}
	for _, a := range slices.Backward(all) {
		if told := toldOf(a.f, a.block, a.order); !told.isSame(a.told) {
			t.Errorf("P19.1: of %v, %d, %v: %v, not %v", printed(a.f), a.block, a.order, told, a.told)
		}
	}
}
