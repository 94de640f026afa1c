package alias_test

import (
	"math/rand"
	"slices"
	"testing"

	"lockstep/alias"
	"lockstep/api"
	"lockstep/code"
)

// lists are all lists of numbers of a function.
func lists(f *api.Func) []*[]int {
	list := []*[]int{&f.Params}
	for b := range f.Blocks {
		k := &f.Blocks[b]
		for i := range k.Phis {
			list = append(list, &k.Phis[i].From, &k.Phis[i].Args)
		}
		for i := range k.Ops {
			list = append(list, &k.Ops[i].Args)
		}
		list = append(list, &k.End.To)
	}
	return list
}

// numbers are all numbers of a function but Imm, those in lists too.
func numbers(f *api.Func) []*int {
	list := []*int{&f.Ret}
	for _, l := range lists(f) {
		for i := range *l {
			list = append(list, &(*l)[i])
		}
	}
	for b := range f.Blocks {
		k := &f.Blocks[b]
		for i := range k.Phis {
			list = append(list, &k.Phis[i].Bits, &k.Phis[i].Dst)
		}
		for i := range k.Ops {
			o := &k.Ops[i]
			list = append(list, &o.Kind, &o.Bits, &o.Lanes, &o.Dst)
		}
		list = append(list, &k.End.Kind, &k.End.Arg)
	}
	return list
}

// room stands behind a list's end, in its spare room.
var room = []int{5, 1, 7}

// spared gives a function with memory of its own, whose lists have spare room.
func spared(f api.Func) api.Func {
	f.Blocks = slices.Clone(f.Blocks)
	for b := range f.Blocks {
		k := &f.Blocks[b]
		k.Phis, k.Ops = slices.Clone(k.Phis), slices.Clone(k.Ops)
	}
	for _, l := range lists(&f) {
		*l = append(slices.Clone(*l), room...)[:len(*l)]
	}
	return f
}

// isUntouched tells whether a function is as it was, its spare room too.
func isUntouched(f, was api.Func) bool {
	is := code.Same(f, was)
	for _, l := range lists(&f) {
		is = is && slices.Equal((*l)[len(*l):][:len(room)], room)
	}
	return is
}

// Rules 3 to 5

// answers are all that is told of a block, as numbers.
func answers(f api.Func, block int) []uint64 {
	list := []uint64{}
	number := func(n uint64, is bool) {
		list = append(list, n)
		if is {
			list = append(list, 1)
		}
	}
	for _, at := range alias.Touches(f, block) {
		number(uint64(at), true)
	}
	for a := range f.Blocks[block].Ops {
		v, length, is := alias.Address(f, block, a)
		number(uint64(v), is)
		number(uint64(length), is)
		b := (a*7 + 3) % len(f.Blocks[block].Ops)
		number(alias.Distance(f, block, a, b))
		number(2, alias.Apart(f, block, a, b))
		number(3, alias.Follows(f, block, a, b))
	}
	return list
}

func TestFunctionsAreNotChanged(t *testing.T) {
	m := &maker{r: rand.New(rand.NewSource(183))}
	for i := range 150 {
		was := m.made(1+i%6, 6)
		f := spared(was)
		for block := range f.Blocks {
			answers(f, block)
		}
		if !isUntouched(f, was) {
			t.Errorf("P18.1: what was handed in was changed: %v, not %v", printed(f), printed(was))
		}
	}
}

// What is told hangs on nothing that was told ahead of it, nor on what was
// written over since.
func TestTheSameAgain(t *testing.T) {
	type asked struct {
		f     api.Func
		block int
		told  []uint64
	}
	m := &maker{r: rand.New(rand.NewSource(184))}
	var all []asked
	for i := range 100 {
		f := m.made(1+i%6, 6)
		g := spared(f)
		for block := range g.Blocks {
			all = append(all, asked{f, block, answers(g, block)})
			list := alias.Touches(g, block)
			list = list[:cap(list)]
			for i := range list {
				list[i] = -7
			}
		}
		for _, l := range lists(&g) {
			clear((*l)[:cap(*l)])
		}
		clear(g.Blocks)
	}
	for _, a := range slices.Backward(all) {
		if told := answers(a.f, a.block); !slices.Equal(told, a.told) {
			t.Errorf("P18.2: of %v, %d: %v, not %v", printed(a.f), a.block, told, a.told)
		}
	}
}
