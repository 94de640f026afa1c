package hammock_test

import (
	"math/rand"
	"slices"
	"testing"

	"lockstep/api"
	"lockstep/code"
	"lockstep/hammock"
)

// lists are all lists of numbers of a function.
func lists(f *api.Func) []*[]int {
	list := []*[]int{&f.Params}
	for b := range f.Blocks {
		k := &f.Blocks[b]
		for i := range k.Phis {
			list = append(list, &k.Phis[i].From, &k.Phis[i].Args)
		}
		for i := range k.Ops {
			list = append(list, &k.Ops[i].Args)
		}
		list = append(list, &k.End.To)
	}
	return list
}

// room stands behind a list's end, in its spare room.
var room = []int{5, 1, 7}

// spared gives a function with memory of its own, whose lists have spare room.
func spared(f api.Func) api.Func {
	f.Blocks = append(slices.Clone(f.Blocks), api.Block{})[:len(f.Blocks)]
	for b := range f.Blocks {
		k := &f.Blocks[b]
		k.Phis = append(slices.Clone(k.Phis), api.Phi{})[:len(k.Phis)]
		k.Ops = append(slices.Clone(k.Ops), api.Op{})[:len(k.Ops)]
	}
	for _, l := range lists(&f) {
		*l = append(slices.Clone(*l), room...)[:len(*l)]
	}
	return f
}

// isUntouched tells whether a function is as it was, its spare room too.
func isUntouched(f, was api.Func) bool {
	spare := f.Blocks[:len(f.Blocks)+1][len(f.Blocks)]
	is := code.Same(f, was) && len(spare.Ops) == 0 && len(spare.Phis) == 0 && spare.End.Kind == 0
	for _, k := range f.Blocks {
		o := k.Ops[:len(k.Ops)+1][len(k.Ops)]
		is = is && o.Lanes == 0 && len(o.Args) == 0
	}
	for _, l := range lists(&f) {
		is = is && slices.Equal((*l)[len(*l):][:len(room)], room)
	}
	return is
}

// askAll asks all of a function.
func askAll(f api.Func) {
	for at := -1; at <= len(f.Blocks); at++ {
		hammock.Find(f, at)
	}
	for _, h := range append(hammock.All(f), api.Hammock{}) {
		hammock.Is(f, h)
		hammock.Cost(f, h)
		hammock.Merges(f, h)
	}
}

// Rules 3 and 5

func TestNothingHandedInIsChanged(t *testing.T) {
	m := &maker{r: rand.New(rand.NewSource(143))}
	for i := range 500 {
		was := m.made(1 + i%20)
		f := spared(was)
		askAll(f)
		if !isUntouched(f, was) {
			t.Errorf("P14.1: what was handed in was changed: %v, not %v", f, was)
		}
	}
}

func TestNothingIsKept(t *testing.T) {
	m := &maker{r: rand.New(rand.NewSource(144))}
	for i := range 500 {
		was := m.made(1 + i%20)
		f := spared(was)
		all := hammock.All(f)
		// What is written over behind the call is another function's.
		for _, l := range lists(&f) {
			clear((*l)[:cap(*l)])
		}
		for b := range f.Blocks {
			f.Blocks[b] = api.Block{}
		}
		askAll(f)
		if want := hammocks(was); !slices.Equal(all, want) {
			t.Errorf("P14.1: hammocks hang on what was handed in: %v, not %v", all, want)
		}
		// Nor does an answer that is written over matter for the next one.
		clear(all)
		checkAll(t, was)
	}
}
