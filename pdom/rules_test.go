package pdom_test

import (
	"slices"
	"testing"

	"lockstep/api"
	"lockstep/pdom"
)

// spared gives the same lists with spare room behind each, and those rooms.
func spared(lists [][]int) (out, room [][]int) {
	for _, l := range lists {
		all := append(slices.Clone(l), 5, 1, 7)
		out, room = append(out, all[:len(l)]), append(room, all)
	}
	return out, room
}

// Some of its blocks go on nowhere, some are shut.
func mixed(t *testing.T) api.Graph {
	t.Helper()
	return withWays(t, []int{1, 2}, []int{3}, []int{4, 5}, nil, []int{4}, []int{6}, []int{5})
}

// Rules 3 and 5

func TestNothingHandedInIsChanged(t *testing.T) {
	g := mixed(t)
	succ, room := spared(g.Succ)
	pred, roomToo := spared(g.Pred)
	handed := api.Graph{Succ: succ, Pred: pred}
	pdom.Shut(handed)
	pdom.Exit(handed)
	list := pdom.Tree(handed)
	for i := range g.Succ {
		if !slices.Equal(room[i], append(g.Succ[i], 5, 1, 7)) || !slices.Equal(roomToo[i], append(g.Pred[i], 5, 1, 7)) {
			t.Errorf("P8.1: a graph that was handed in was changed: %v %v", room[i], roomToo[i])
		}
	}
	trees, all := spared([][]int{list})
	was := slices.Clone(all[0])
	pdom.Over(trees[0], 7, 0)
	if !slices.Equal(all[0], was) {
		t.Error("P8.2: a tree that was handed in was changed")
	}
}

// fill writes over all lists, their spare room too.
func fill(lists [][]int) {
	for _, l := range lists {
		l = l[:cap(l)]
		for i := range l {
			l[i] = 77
		}
	}
}

func TestNothingHandedInIsKept(t *testing.T) {
	g := mixed(t)
	x, e := pdom.Exit(g)
	list, none := pdom.Tree(g), pdom.Shut(g)
	fill(g.Succ)
	fill(g.Pred)
	want, _ := pdom.Exit(mixed(t))
	if e != api.OK || !sameLists(x.Succ, want.Succ) || !sameLists(x.Pred, want.Pred) {
		t.Errorf("P8.1: a graph with its exit hangs on the one without: %v %v", x, e)
	}
	if !slices.Equal(list, []int{7, 3, 7, 7, 7, 7, 5, -1}) {
		t.Errorf("P8.2: a tree hangs on its graph: %v", list)
	}
	if !slices.Equal(none, []int{2, 4, 5, 6}) {
		t.Errorf("P8.1: what is shut hangs on its graph: %v", none)
	}
}

func TestAnswersShareNothing(t *testing.T) {
	g, same := mixed(t), mixed(t)
	x, _ := pdom.Exit(g)
	fill(x.Succ)
	if want, _ := pdom.Exit(same); !sameLists(x.Pred, want.Pred) {
		t.Errorf("P8.1: two lists of one answer are one: %v", x.Pred)
	}
	fill(x.Pred)
	fill([][]int{pdom.Tree(g), pdom.Shut(g)})
	if !sameLists(g.Succ, same.Succ) || !sameLists(g.Pred, same.Pred) {
		t.Errorf("P8.1: an answer and a graph share lists: %v", g)
	}
}

func TestAnswersHangOnNothingElse(t *testing.T) {
	g := mixed(t)
	first, shut := pdom.Tree(g), pdom.Shut(g)
	again := slices.Clone(first)
	clear(pdom.Tree(g))
	clear(pdom.Shut(withWays(t, []int{0})))
	pdom.Exit(api.Graph{})
	pdom.Tree(withWays(t, nil, nil))
	if second := pdom.Tree(g); !slices.Equal(second, again) || !slices.Equal(first, again) {
		t.Errorf("P8.2: %v, then %v", first, second)
	}
	if l := pdom.Shut(g); !slices.Equal(l, shut) {
		t.Errorf("P8.1: %v, then %v", shut, l)
	}
}
