package graph_test

import (
	"math/rand"
	"slices"
	"testing"

	"lockstep/api"
	"lockstep/graph"
)

// walk tells the order anew, as the chapter's words have it: a block, then what
// its ways on reach, and each is told ahead of those that were left before.
func (m edges) walk(at int, reached map[int]bool, told []int) []int {
	reached[at] = true
	for to := range m {
		if m[at][to] && !reached[to] {
			told = m.walk(to, reached, told)
		}
	}
	return append([]int{at}, told...)
}

func checkOrder(t *testing.T, g api.Graph, root int, want ...int) {
	t.Helper()
	if l := graph.Order(g, root); !slices.Equal(l, want) {
		t.Errorf("P6.2: Order(%v, %d): %v, not %v", g, root, l, want)
	}
}

func withWays(t *testing.T, succ ...[]int) api.Graph {
	t.Helper()
	g, e := graph.Make(succ)
	if e != api.OK {
		t.Fatalf("P6.1: Make(%v): %v", succ, e)
	}
	return g
}

func TestOrderByHand(t *testing.T) {
	checkOrder(t, withWays(t, []int{1, 2}, []int{3}, []int{3}, nil), 0, 0, 2, 1, 3)
	checkOrder(t, withWays(t, nil), 0, 0)
	checkOrder(t, withWays(t, []int{0}), 0, 0)
	checkOrder(t, withWays(t, []int{1}, []int{0}), 0, 0, 1)
	checkOrder(t, withWays(t, []int{1}, []int{0}), 1, 1, 0)
	checkOrder(t, withWays(t, []int{0, 1, 2}, []int{0, 1, 2}, []int{0, 1, 2}), 1, 1, 0, 2)
	// 3 is reached by way of 1, deep down, though it is a way on of 0 itself.
	checkOrder(t, withWays(t, []int{1, 3}, []int{2}, []int{3}, []int{4}, nil), 0, 0, 1, 2, 3, 4)
	// 1 is reached by way of 2 ahead of what goes on at it later.
	checkOrder(t, withWays(t, []int{2, 3}, nil, []int{1}, []int{1}), 0, 0, 3, 2, 1)
	// A loop, and a way out of it: the least way on is gone first, and so told last.
	checkOrder(t, withWays(t, []int{1}, []int{2, 3}, []int{1}, nil), 0, 0, 1, 3, 2)
	checkOrder(t, withWays(t, []int{1}, []int{2, 3}, nil, []int{1}), 0, 0, 1, 3, 2)
	// What can't be reached isn't told, whatever it goes on at.
	checkOrder(t, withWays(t, nil, []int{0, 2}, []int{0, 1}), 0, 0)
	checkOrder(t, withWays(t, nil, []int{0, 2}, []int{0, 1}), 2, 2, 1, 0)
}

func TestOrderOfEveryGraph(t *testing.T) {
	for n := 1; n <= 3; n++ {
		everyGraph(n, func(m edges) { checkAllRoots(t, m) })
	}
	r := rand.New(rand.NewSource(65))
	for i := range 600 {
		checkAllRoots(t, anyEdges(r, 1+i%api.MaxBlocks))
	}
}

func checkAllRoots(t *testing.T, m edges) {
	t.Helper()
	g := m.lists()
	for root := range m {
		checkOrder(t, g, root, m.walk(root, map[int]bool{}, nil)...)
		checkWhatFollows(t, m, root, graph.Order(g, root))
	}
}

// checkWhatFollows checks P6.3 by itself, without the words of the order.
func checkWhatFollows(t *testing.T, m edges, root int, order []int) {
	t.Helper()
	if len(order) == 0 || order[0] != root {
		t.Fatalf("P6.3: the root %d isn't the first of %v", root, order)
	}
	reach := m.reach()
	for at := range m {
		times := 0
		for _, v := range order {
			if v == at {
				times++
			}
		}
		want := 0
		if at == root || reach[root][at] {
			want = 1
		}
		if times != want {
			t.Errorf("P6.3: %d stands %d times, not %d, in %v of %v", at, times, want, order, m.lists())
		}
	}
	if m.goesRound(reach, order) {
		return
	}
	for i, at := range order {
		for _, ahead := range order[:i] {
			if m[at][ahead] {
				t.Errorf("P6.3: %d goes on at %d, which stands ahead, in %v of %v", at, ahead, order, m.lists())
			}
		}
	}
}

// reach tells which block can be reached from which, by one step or more.
func (m edges) reach() edges {
	c := noEdges(len(m))
	for i := range m {
		copy(c[i], m[i])
	}
	for by := range c {
		for from := range c {
			if !c[from][by] {
				continue
			}
			for to := range c {
				c[from][to] = c[from][to] || c[by][to]
			}
		}
	}
	return c
}

// goesRound tells whether one of these can be reached from itself.
func (m edges) goesRound(reach edges, among []int) bool {
	return slices.ContainsFunc(among, func(at int) bool { return reach[at][at] })
}

func TestOrderWithNoWayRound(t *testing.T) {
	r := rand.New(rand.NewSource(66))
	for i := range 400 {
		n := 1 + i%api.MaxBlocks
		rank := r.Perm(n)
		m := noEdges(n)
		for range r.Intn(4*n + 1) {
			a, b := r.Intn(n), r.Intn(n)
			m[a][b] = rank[a] < rank[b]
		}
		checkAllRoots(t, m)
	}
}

func TestOrderOfTheGreatest(t *testing.T) {
	const n = api.MaxBlocks
	up, down, full := noEdges(n), noEdges(n), noEdges(n)
	for i := range n {
		for k := range n {
			up[i][k], down[i][k], full[i][k] = k == i+1, k == i-1, true
		}
	}
	for _, m := range []edges{up, down, full} {
		checkAllRoots(t, m)
	}
}

func TestOrderFromNoBlock(t *testing.T) {
	for n := 1; n <= api.MaxBlocks; n++ {
		g := noEdges(n).lists()
		for _, root := range append([]int{n, n + 1}, notPlaces...) {
			checkOrder(t, g, root)
		}
		checkOrder(t, g, n-1, n-1)
	}
	checkOrder(t, api.Graph{}, 0)
	checkOrder(t, api.Graph{}, -1)
}

func TestOrderOfAFunction(t *testing.T) {
	r := rand.New(rand.NewSource(67))
	for i := range 600 {
		f, m := anyFunction(r, 1+i%api.MaxBlocks)
		g, e := graph.Of(f)
		if e != api.OK {
			t.Fatalf("P6.1: %v", e)
		}
		checkOrder(t, g, 0, m.walk(0, map[int]bool{}, nil)...)
		// And the other way round.
		back := noEdges(len(m))
		for a := range m {
			for b := range m {
				back[b][a] = m[a][b]
			}
		}
		last := len(m) - 1
		checkOrder(t, graph.Turned(g), last, back.walk(last, map[int]bool{}, nil)...)
	}
}

func TestOrderHangsOnNothingElse(t *testing.T) {
	g := withWays(t, []int{1, 2}, []int{3}, []int{3}, []int{1})
	first := graph.Order(g, 0)
	graph.Order(g, 2)
	graph.Order(withWays(t, nil), 0)
	if second := graph.Order(g, 0); !slices.Equal(first, second) {
		t.Errorf("P6.2: first %v, then %v", first, second)
	}
}
