package dom_test

import (
	"math"
	"math/rand"
	"slices"
	"testing"

	"lockstep/api"
	"lockstep/dom"
	"lockstep/graph"
)

// notPlaces are no places of blocks, however many there are; some would be, if
// a part of their bits were taken for all.
var notPlaces = []int{-1, -2, -3, -64, api.MaxBlocks, api.MaxBlocks + 1, 256, 1 << 32, 1<<32 + 1, math.MaxInt, math.MinInt, math.MinInt + 1}

func withWays(t *testing.T, succ ...[]int) api.Graph {
	t.Helper()
	g, e := graph.Make(succ)
	if e != api.OK {
		t.Fatalf("Make(%v): %v", succ, e)
	}
	return g
}

// anyGraph makes one by chance, thick or thin.
func anyGraph(t *testing.T, r *rand.Rand, n int) api.Graph {
	t.Helper()
	succ := make([][]int, n)
	for range r.Intn(3*n + 1) {
		from, to := r.Intn(n), r.Intn(n)
		if at, is := slices.BinarySearch(succ[from], to); !is {
			succ[from] = slices.Insert(succ[from], at, to)
		}
	}
	return withWays(t, succ...)
}

// everyGraph calls with each graph of n blocks.
func everyGraph(t *testing.T, n int, do func(g api.Graph)) {
	t.Helper()
	for bits := range 1 << (n * n) {
		succ := make([][]int, n)
		for i := range n * n {
			if bits>>i&1 == 1 {
				succ[i/n] = append(succ[i/n], i%n)
			}
		}
		do(withWays(t, succ...))
	}
}

// reached tells which blocks ways from the root lead to that don't go through
// one block (none: -1).
func reached(g api.Graph, root, without int) []bool {
	is := make([]bool, len(g.Succ))
	var from func(at int)
	from = func(at int) {
		if at == without || is[at] {
			return
		}
		is[at] = true
		for _, to := range g.Succ[at] {
			from(to)
		}
	}
	from(root)
	return is
}

// dominates tells anew, by the chapter's words, which block dominates which.
func dominates(g api.Graph, root int) [][]bool {
	all := reached(g, root, -1)
	is := make([][]bool, len(g.Succ))
	for a := range is {
		is[a] = make([]bool, len(all))
		without := reached(g, root, a)
		for b := range all {
			is[a][b] = all[b] && !without[b]
		}
	}
	return is
}

// tree tells anew, by the chapter's words, the immediate dominators.
func tree(t *testing.T, g api.Graph, root int) []int {
	t.Helper()
	is := dominates(g, root)
	list := make([]int, len(is))
	for b := range is {
		var over []int
		for a := range is {
			if a != b && is[a][b] {
				over = append(over, a)
			}
		}
		list[b] = -2
		if is[b][b] {
			list[b] = -1
		}
		for _, a := range over {
			if !slices.ContainsFunc(over, func(c int) bool { return !is[c][a] }) {
				list[b] = a
			}
		}
		if (list[b] == -1) != (b == root) {
			t.Fatalf("the chapter's words, told anew: %v for %v from %d", list, g, root)
		}
	}
	return list
}

func checkTree(t *testing.T, g api.Graph, root int, want ...int) {
	t.Helper()
	if l := dom.Tree(g, root); !slices.Equal(l, want) {
		t.Errorf("P7.1: Tree(%v, %d): %v, not %v", g, root, l, want)
	}
}

func checkAllRoots(t *testing.T, g api.Graph) {
	t.Helper()
	for root := range g.Succ {
		checkTree(t, g, root, tree(t, g, root)...)
	}
}

// P7.1

func TestTreeByHand(t *testing.T) {
	checkTree(t, withWays(t, []int{1, 2}, []int{3}, []int{3}, nil), 0, -1, 0, 0, 0)
	checkTree(t, withWays(t, nil), 0, -1)
	checkTree(t, withWays(t, []int{0}), 0, -1)
	checkTree(t, withWays(t, []int{1}, []int{0}), 0, -1, 0)
	checkTree(t, withWays(t, []int{1}, []int{0}), 1, 1, -1)
	checkTree(t, withWays(t, []int{1}, []int{2}, []int{3}, nil), 0, -1, 0, 1, 2)
	// From within: what stands ahead isn't reached.
	checkTree(t, withWays(t, []int{1}, []int{2}, []int{3}, nil), 2, -2, -2, -1, 2)
	checkTree(t, withWays(t, nil, []int{0}, []int{0, 1}), 0, -1, -2, -2)
	// The root has none, whatever goes on at it.
	checkTree(t, withWays(t, []int{0, 1}, []int{0, 2}, []int{0, 1, 2}), 0, -1, 0, 1)
	// A way past: 2 isn't always gone through.
	checkTree(t, withWays(t, []int{1, 2}, []int{2}, []int{3}, nil), 0, -1, 0, 0, 2)
	// A block that none reaches goes on at one that is reached: that doesn't matter.
	checkTree(t, withWays(t, []int{1}, []int{2}, nil, []int{2, 3}), 0, -1, 0, 1, -2)
	// A loop with a way out of its midst, and one that is entered at two blocks.
	checkTree(t, withWays(t, []int{1}, []int{2, 3}, []int{1}, []int{3}), 0, -1, 0, 1, 1)
	checkTree(t, withWays(t, []int{1, 2}, []int{2}, []int{1, 3}, nil), 0, -1, 0, 0, 2)
}

func TestTreeNeedsMoreRoundsThanOne(t *testing.T) {
	// That 4 is reached by way of 5, and 3 by way of 4, is known late.
	checkTree(t, withWays(t, []int{1, 2}, []int{5}, []int{3, 4}, []int{4}, []int{3, 5}, []int{4}), 0, -1, 0, 0, 0, 0, 0)
	// A ladder, whose rungs go both ways, entered at the top on one side, and at the
	// foot on the other one.
	const n = api.MaxBlocks
	succ := [][]int{{1, n - 1}}
	want := []int{-1}
	for i := 1; i < n; i++ {
		var to []int
		if i > 1 {
			to = append(to, i-1)
		}
		if i < n-1 {
			to = append(to, i+1)
		}
		succ, want = append(succ, to), append(want, 0)
	}
	checkTree(t, withWays(t, succ...), 0, want...)
}

func TestTreeOfEveryGraph(t *testing.T) {
	for n := 1; n <= 3; n++ {
		everyGraph(t, n, func(g api.Graph) { checkAllRoots(t, g) })
	}
	everyGraph(t, 4, func(g api.Graph) { checkTree(t, g, 0, tree(t, g, 0)...) })
}

func TestTreeByChance(t *testing.T) {
	r := rand.New(rand.NewSource(71))
	for range 4000 {
		checkAllRoots(t, anyGraph(t, r, 5+r.Intn(6)))
	}
	for i := range 6 * api.MaxBlocks {
		g := anyGraph(t, r, 1+i%api.MaxBlocks)
		for range 3 {
			root := r.Intn(len(g.Succ))
			checkTree(t, g, root, tree(t, g, root)...)
		}
		g = graph.Turned(g)
		checkTree(t, g, 0, tree(t, g, 0)...)
	}
}

func TestTreeOfTheGreatest(t *testing.T) {
	const n = api.MaxBlocks
	up, down, full := make([][]int, n), make([][]int, n), make([][]int, n)
	for i := range n {
		if i+1 < n {
			up[i] = []int{i + 1}
		}
		if i > 0 {
			down[i] = []int{i - 1}
		}
		for k := range n {
			full[i] = append(full[i], k)
		}
	}
	for _, succ := range [][][]int{up, down, full} {
		checkAllRoots(t, withWays(t, succ...))
	}
}

func TestTreeFromNoBlock(t *testing.T) {
	for n := 1; n <= api.MaxBlocks; n++ {
		g := withWays(t, make([][]int, n)...)
		for _, root := range append([]int{n, n + 1}, notPlaces...) {
			checkTree(t, g, root)
		}
		want := slices.Repeat([]int{-2}, n)
		want[n-1] = -1
		checkTree(t, g, n-1, want...)
	}
}

func TestTreeOfWhatMayNotBe(t *testing.T) {
	tooMany := make([][]int, api.MaxBlocks+1)
	for _, g := range []api.Graph{
		{},
		{Succ: [][]int{}, Pred: [][]int{}},
		{Succ: tooMany, Pred: tooMany},
		{Succ: [][]int{{1}, {}}},
		{Pred: [][]int{{}, {0}}},
		{Succ: [][]int{{1}, {}}, Pred: [][]int{{}, {}}},
		{Succ: [][]int{{}, {}}, Pred: [][]int{{}, {0}}},
		{Succ: [][]int{{1}, {}}, Pred: [][]int{{}, {0}, {}}},
		{Succ: [][]int{{1}, {}}, Pred: [][]int{{}, {1}}},
		{Succ: [][]int{{1, 1}, {}}, Pred: [][]int{{}, {0, 0}}},
		{Succ: [][]int{{1, 0}, {}}, Pred: [][]int{{0}, {0}}},
		{Succ: [][]int{{2}, {}}, Pred: [][]int{{}, {}}},
		{Succ: [][]int{{-1}, {}}, Pred: [][]int{{}, {}}},
		{Succ: [][]int{{math.MaxInt}, {math.MinInt}}, Pred: [][]int{{}, {}}},
		{Succ: [][]int{{1}, {}}, Pred: [][]int{{}, {7}}},
	} {
		for root := -3; root <= len(g.Succ)+1; root++ {
			checkTree(t, g, root)
		}
	}
}

// P7.3

func TestWhoDominatesStandsAhead(t *testing.T) {
	r := rand.New(rand.NewSource(72))
	for range 400 {
		g := anyGraph(t, r, 1+r.Intn(12))
		for root := range g.Succ {
			checkWhatFollows(t, g, root)
		}
	}
	for range 8 {
		checkWhatFollows(t, anyGraph(t, r, api.MaxBlocks), 0)
	}
}

// checkWhatFollows checks P7.3, and that Over is 'dominates'.
func checkWhatFollows(t *testing.T, g api.Graph, root int) {
	t.Helper()
	made, is, order := dom.Tree(g, root), dominates(g, root), graph.Order(g, root)
	for a := range g.Succ {
		for b := range g.Succ {
			over := dom.Over(made, a, b)
			if over != is[a][b] {
				t.Fatalf("P7.2: Over(%v, %d, %d): %v for %v from %d", made, a, b, over, g, root)
			}
			if over && slices.Index(order, a) > slices.Index(order, b) {
				t.Fatalf("P7.3: %d dominates %d, but %v for %v from %d", a, b, order, g, root)
			}
		}
	}
	checkOrder(t, made)
}

// checkOrder checks that Over is an order of the blocks that are reached.
func checkOrder(t *testing.T, list []int) {
	t.Helper()
	n := len(list)
	over := make([][]bool, n)
	for a := range n {
		for b := range n {
			over[a] = append(over[a], dom.Over(list, a, b))
		}
	}
	for a := range n {
		if over[a][a] != (list[a] != -2) {
			t.Fatalf("P7.3: %v: of %d and itself", list, a)
		}
		for b := range n {
			if a != b && over[a][b] && over[b][a] {
				t.Fatalf("P7.3: %v: %d and %d both ways", list, a, b)
			}
			for c := range n {
				if over[a][b] && over[b][c] && !over[a][c] {
					t.Fatalf("P7.3: %v: %d over %d, %d over %d, but not %d over %d", list, a, b, b, c, a, c)
				}
			}
		}
	}
}

// Rules 3 and 5

// spared gives the same list with spare room behind, and that room.
func spared(list []int) (out, room []int) {
	room = append(slices.Clone(list), 5, 1, 7)
	return room[:len(list)], room
}

func sparedLists(lists [][]int) (out, room [][]int) {
	for _, l := range lists {
		a, b := spared(l)
		out, room = append(out, a), append(room, b)
	}
	return out, room
}

func TestNothingHandedInIsChanged(t *testing.T) {
	g := withWays(t, []int{1, 2}, []int{3}, []int{1, 3}, []int{1}, []int{0})
	succ, room := sparedLists(g.Succ)
	pred, roomToo := sparedLists(g.Pred)
	made := dom.Tree(api.Graph{Succ: succ, Pred: pred}, 0)
	for i := range g.Succ {
		if !slices.Equal(room[i], append(g.Succ[i], 5, 1, 7)) || !slices.Equal(roomToo[i], append(g.Pred[i], 5, 1, 7)) {
			t.Error("P7.1: a graph that was handed in was changed")
		}
	}
	list, all := spared(made)
	was := slices.Clone(all)
	dom.Over(list, 0, 3)
	dom.Meet(list, 1, 3)
	dom.Kids(list, 0)
	if !slices.Equal(all, was) {
		t.Error("P7.2: a tree that was handed in was changed")
	}
}

func TestNothingHandedInIsKept(t *testing.T) {
	g := withWays(t, []int{1, 2}, []int{3}, []int{3}, nil)
	made := dom.Tree(g, 0)
	kids := dom.Kids(made, 0)
	for _, l := range slices.Concat(g.Succ, g.Pred) {
		for i := range l {
			l[i] = 77
		}
	}
	if !slices.Equal(made, []int{-1, 0, 0, 0}) {
		t.Errorf("P7.1: a tree hangs on its graph: %v", made)
	}
	clear(made[:cap(made)])
	if !slices.Equal(kids, []int{1, 2, 3}) {
		t.Errorf("P7.2: kids hang on their tree: %v", kids)
	}
}

func TestAnswersHangOnNothingElse(t *testing.T) {
	g := withWays(t, []int{1, 2}, []int{3}, []int{1, 3}, []int{1})
	first := dom.Tree(g, 0)
	again := slices.Clone(first)
	clear(dom.Tree(g, 2))
	clear(dom.Tree(withWays(t, nil), 0))
	clear(dom.Kids(first, 0))
	if second := dom.Tree(g, 0); !slices.Equal(second, again) || !slices.Equal(first, again) {
		t.Errorf("P7.1: %v, then %v", first, second)
	}
	if l := dom.Kids(first, 0); !slices.Equal(l, []int{1, 2, 3}) {
		t.Errorf("P7.2: then %v", l)
	}
}
