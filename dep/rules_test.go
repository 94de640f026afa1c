package dep_test

import (
	"slices"
	"testing"

	"lockstep/api"
	"lockstep/dep"
)

// spared gives the same lists with spare room behind each, and those rooms.
func spared(lists [][]int) (out, room [][]int) {
	for _, l := range lists {
		all := append(slices.Clone(l), 5, 1, 7)
		out, room = append(out, all[:len(l)]), append(room, all)
	}
	return out, room
}

// fill writes over all lists, their spare room too.
func fill(lists [][]int) {
	for _, l := range lists {
		l = l[:cap(l)]
		for i := range l {
			l[i] = 77
		}
	}
}

// A loop, a part that parts and meets in it, and a ring without a way out.
func mixed(t *testing.T) api.Graph {
	t.Helper()
	return withWays(t, []int{1, 6}, []int{2, 3}, []int{4}, []int{4}, []int{1, 5}, nil, []int{7}, []int{6})
}

// Rules 3 and 5

func TestNothingHandedInIsChanged(t *testing.T) {
	g := mixed(t)
	succ, room := spared(g.Succ)
	pred, roomToo := spared(g.Pred)
	handed := api.Graph{Succ: succ, Pred: pred}
	dep.All(handed)
	for x := range g.Succ {
		dep.Of(handed, x)
		dep.Frontier(handed, x)
	}
	for i := range g.Succ {
		if !slices.Equal(room[i], append(g.Succ[i], 5, 1, 7)) || !slices.Equal(roomToo[i], append(g.Pred[i], 5, 1, 7)) {
			t.Errorf("P9.1: a graph that was handed in was changed: %v %v", room[i], roomToo[i])
		}
	}
}

func TestNothingHandedInIsKept(t *testing.T) {
	g := mixed(t)
	all, some, front := dep.All(g), dep.Of(g, 4), dep.Frontier(g, 4)
	fill(g.Succ)
	fill(g.Pred)
	want := hanging(mixed(t))
	if !slices.Equal(all, want) || !slices.Equal(some, of(want, 4)) {
		t.Errorf("P9.1: what hangs on what hangs on a graph's lists: %v %v", all, some)
	}
	if !slices.Equal(front, []int{1}) {
		t.Errorf("P9.2: a frontier hangs on a graph's lists: %v", front)
	}
}

func TestAnswersAreNewMemory(t *testing.T) {
	g, same := mixed(t), mixed(t)
	for x := range g.Succ {
		clear(dep.Of(g, x))
		fill([][]int{dep.Frontier(g, x)})
	}
	clear(dep.All(g))
	if !slices.EqualFunc(g.Succ, same.Succ, slices.Equal) || !slices.EqualFunc(g.Pred, same.Pred, slices.Equal) {
		t.Errorf("P9.1: an answer and a graph share lists: %v", g)
	}
	// Nor does it hang on what was asked, or answered, ahead.
	dep.All(api.Graph{})
	dep.Frontier(withWays(t, []int{0}), 0)
	checkAll(t, g)
}
