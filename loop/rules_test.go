package loop_test

import (
	"slices"
	"testing"

	"lockstep/api"
	"lockstep/loop"
)

// spared gives the same lists with spare room behind each, and those rooms.
func spared(lists [][]int) (out, room [][]int) {
	for _, l := range lists {
		all := append(slices.Clone(l), 5, 1, 7)
		out, room = append(out, all[:len(l)]), append(room, all)
	}
	return out, room
}

// fill writes over all lists, their spare room too.
func fill(lists [][]int) {
	for _, l := range lists {
		l = l[:cap(l)]
		for i := range l {
			l[i] = 77
		}
	}
}

// A loop of two ways back with another one in it, a block that goes on at
// itself, and one that isn't reached.
func mixed(t *testing.T) api.Graph {
	t.Helper()
	return withWays(t, []int{1}, []int{2, 4}, []int{3}, []int{1, 2}, []int{1, 5}, []int{5, 6}, nil, []int{2})
}

// bodies gives the lists of loops.
func bodies(all []api.Loop) [][]int {
	var lists [][]int
	for _, l := range all {
		lists = append(lists, l.Body)
	}
	return lists
}

// Rules 3 and 5

func TestNothingHandedInIsChanged(t *testing.T) {
	g := mixed(t)
	succ, room := spared(g.Succ)
	pred, roomToo := spared(g.Pred)
	handed := api.Graph{Succ: succ, Pred: pred}
	loop.Backs(handed)
	loop.All(handed)
	loop.Depth(handed, 2)
	loop.Reducible(handed)
	loop.Forward(handed)
	for i := range g.Succ {
		if !slices.Equal(room[i], append(g.Succ[i], 5, 1, 7)) || !slices.Equal(roomToo[i], append(g.Pred[i], 5, 1, 7)) {
			t.Errorf("P10.1, P10.2: a graph that was handed in was changed: %v %v", room[i], roomToo[i])
		}
	}
}

func TestNothingHandedInIsKept(t *testing.T) {
	g := mixed(t)
	ways, all := loop.Backs(g), loop.All(g)
	fill(g.Succ)
	fill(g.Pred)
	if want := backs(mixed(t)); !slices.Equal(ways, want) {
		t.Errorf("P10.1: ways back hang on a graph's lists: %v, not %v", ways, want)
	}
	if want := loops(mixed(t)); !slices.EqualFunc(all, want, same) {
		t.Errorf("P10.1: loops hang on a graph's lists: %v, not %v", all, want)
	}
}

func TestAnswersAreNewMemory(t *testing.T) {
	g, was := mixed(t), mixed(t)
	clear(loop.Backs(g))
	all := loop.All(g)
	// No two lists of one answer share any, their spare room neither.
	for i, l := range bodies(all) {
		fill([][]int{l})
		if want := loops(was)[i+1:]; !slices.EqualFunc(all[i+1:], want, same) {
			t.Errorf("P10.1: loops share lists: %v, not %v", all[i+1:], want)
		}
	}
	clear(all)
	if !slices.EqualFunc(g.Succ, was.Succ, slices.Equal) || !slices.EqualFunc(g.Pred, was.Pred, slices.Equal) {
		t.Errorf("P10.1: an answer and a graph share lists: %v", g)
	}
	// Nor does it hang on what was asked, or answered, ahead.
	loop.All(api.Graph{})
	loop.All(withWays(t, []int{0}))
	checkAll(t, g)
}
