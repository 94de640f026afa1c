package pdom_test

import (
	"math"
	"math/rand"
	"slices"
	"testing"

	"lockstep/api"
	"lockstep/graph"
	"lockstep/pdom"
)

func withWays(t *testing.T, succ ...[]int) api.Graph {
	t.Helper()
	g, e := graph.Make(succ)
	if e != api.OK {
		t.Fatalf("Make(%v): %v", succ, e)
	}
	return g
}

// anyGraph makes one by chance, thick or thin.
func anyGraph(t *testing.T, r *rand.Rand, n int) api.Graph {
	t.Helper()
	succ := make([][]int, n)
	for range r.Intn(3*n + 1) {
		from, to := r.Intn(n), r.Intn(n)
		if at, is := slices.BinarySearch(succ[from], to); !is {
			succ[from] = slices.Insert(succ[from], at, to)
		}
	}
	return withWays(t, succ...)
}

// anyShut makes one by chance of which few blocks, or none, go on nowhere.
func anyShut(t *testing.T, r *rand.Rand, n int) api.Graph {
	t.Helper()
	succ := make([][]int, n)
	for at := range succ {
		if r.Intn(2*n) > 0 {
			succ[at] = []int{r.Intn(n)}
		}
		if to := r.Intn(n); r.Intn(4) == 0 && len(succ[at]) > 0 && to > succ[at][0] {
			succ[at] = append(succ[at], to)
		}
	}
	return withWays(t, succ...)
}

// everyGraph calls with each graph of n blocks.
func everyGraph(t *testing.T, n int, do func(g api.Graph)) {
	t.Helper()
	for bits := range 1 << (n * n) {
		succ := make([][]int, n)
		for i := range n * n {
			if bits>>i&1 == 1 {
				succ[i/n] = append(succ[i/n], i%n)
			}
		}
		do(withWays(t, succ...))
	}
}

// goesTo tells whether a way leads from a block to one of which is is so; the
// way goes on past no block that is without.
func goesTo(succ [][]int, from, without int, is func(at int) bool) bool {
	seen := make([]bool, len(succ))
	var look func(at int) bool
	look = func(at int) bool {
		if at == without || seen[at] {
			return false
		}
		seen[at] = true
		return is(at) || slices.ContainsFunc(succ[at], look)
	}
	return look(from)
}

// shut tells anew, by the chapter's words, which blocks are.
func shut(g api.Graph) []int {
	var list []int
	for at := range g.Succ {
		if !goesTo(g.Succ, at, -1, func(x int) bool { return len(g.Succ[x]) == 0 }) {
			list = append(list, at)
		}
	}
	return list
}

// withExit tells anew, by the chapter's words, the Succ of the graph with its exit.
func withExit(g api.Graph) [][]int {
	exit := len(g.Succ)
	succ := make([][]int, exit+1)
	for at := range g.Succ {
		succ[at] = append(succ[at], g.Succ[at]...)
		if len(succ[at]) == 0 {
			succ[at] = []int{exit}
		}
	}
	for range exit {
		for at := range exit {
			if !goesTo(succ, at, -1, func(x int) bool { return x == exit }) {
				succ[at] = append(succ[at], exit)
				break
			}
		}
	}
	return succ
}

// postdominates tells anew which block postdominates which: there is no way to
// the exit but through it.
func postdominates(g api.Graph) [][]bool {
	succ := withExit(g)
	is := make([][]bool, len(succ))
	for a := range succ {
		is[a] = make([]bool, len(succ))
		for b := range succ {
			is[a][b] = !goesTo(succ, b, a, func(x int) bool { return x == len(g.Succ) })
		}
	}
	return is
}

// tree tells anew, by the chapter's words, the immediate postdominators.
func tree(t *testing.T, g api.Graph) []int {
	t.Helper()
	is := postdominates(g)
	list := make([]int, len(is))
	for b := range is {
		var over []int
		for a := range is {
			if a != b && is[a][b] {
				over = append(over, a)
			}
		}
		list[b] = -1
		for _, a := range over {
			if !slices.ContainsFunc(over, func(c int) bool { return !is[c][a] }) {
				list[b] = a
			}
		}
		if (list[b] == -1) != (b == len(g.Succ)) {
			t.Fatalf("the chapter's words, told anew: %v for %v", list, g)
		}
	}
	return list
}

func sameLists(a, b [][]int) bool { return slices.EqualFunc(a, b, slices.Equal[[]int]) }

// checkExit checks what Exit answers of a graph of which these are the ways on.
func checkExit(t *testing.T, g api.Graph, succ ...[]int) {
	t.Helper()
	pred := make([][]int, len(succ))
	for to := range succ {
		for from := range succ {
			if slices.Contains(succ[from], to) {
				pred[to] = append(pred[to], from)
			}
		}
	}
	x, e := pdom.Exit(g)
	if e != api.OK || !sameLists(x.Succ, succ) || !sameLists(x.Pred, pred) {
		t.Errorf("P8.1: Exit(%v): %v %v, not %v %v", g, x, e, succ, pred)
	}
}

func checkShut(t *testing.T, g api.Graph, want ...int) {
	t.Helper()
	if l := pdom.Shut(g); !slices.Equal(l, want) {
		t.Errorf("P8.1: Shut(%v): %v, not %v", g, l, want)
	}
}

func checkTree(t *testing.T, g api.Graph, want ...int) {
	t.Helper()
	if l := pdom.Tree(g); !slices.Equal(l, want) {
		t.Errorf("P8.2: Tree(%v): %v, not %v", g, l, want)
	}
}

// checkAll checks all that is told of a graph that has room for an exit.
func checkAll(t *testing.T, g api.Graph) {
	t.Helper()
	checkExit(t, g, withExit(g)...)
	checkShut(t, g, shut(g)...)
	checkTree(t, g, tree(t, g)...)
	checkWhatFollows(t, g)
}

// checkWhatFollows checks P8.3.
func checkWhatFollows(t *testing.T, g api.Graph) {
	t.Helper()
	x, e := pdom.Exit(g)
	exit := len(g.Succ)
	if l := graph.Order(graph.Turned(x), exit); e != api.OK || len(l) != exit+1 {
		t.Errorf("P8.3: of %v only %v reach the exit", g, l)
	}
	made := pdom.Tree(g)
	for at := range exit + 1 {
		if !pdom.Over(made, exit, at) || pdom.Over(made, at, exit) != (at == exit) {
			t.Errorf("P8.3: the exit and %d in %v", at, made)
		}
	}
}

// P8.1

func TestExitByHand(t *testing.T) {
	// One block goes on nowhere, or some do; all of these at the exit, and no other one.
	checkExit(t, withWays(t, nil), []int{1}, nil)
	checkExit(t, withWays(t, []int{1, 2}, []int{3}, []int{3}, nil), []int{1, 2}, []int{3}, []int{3}, []int{4}, nil)
	checkExit(t, withWays(t, []int{1, 2}, nil, nil), []int{1, 2}, []int{3}, []int{3}, nil)
	checkExit(t, withWays(t, nil, nil), []int{2}, []int{2}, nil)
	// A loop that is left goes on as it does.
	checkExit(t, withWays(t, []int{1}, []int{0, 2}, nil), []int{1}, []int{0, 2}, []int{3}, nil)
	// One block that goes on at itself alone.
	checkExit(t, withWays(t, []int{0}), []int{0, 1}, nil)
	checkExit(t, withWays(t, []int{1}, []int{1}), []int{1, 2}, []int{1, 2}, nil)
}

func TestExitLooksAgainFromTheLeastPlace(t *testing.T) {
	// The least place goes on at the exit, though a later one would do for all;
	// then those are looked at that still don't reach it.
	checkExit(t, withWays(t, []int{1}, []int{2}, []int{1}), []int{1, 3}, []int{2, 3}, []int{1}, nil)
	checkExit(t, withWays(t, []int{1}, []int{2}, []int{0}), []int{1, 3}, []int{2}, []int{0}, nil)
	// From the least one that is shut, the others are reached, but not it from them.
	checkExit(t, withWays(t, []int{3}, nil, []int{2}, []int{2, 3}), []int{3, 4}, []int{4}, []int{2, 4}, []int{2, 3}, nil)
	// A block that reaches one that goes on nowhere gets no way more.
	checkExit(t, withWays(t, []int{1, 2}, []int{1}, nil), []int{1, 2}, []int{1, 3}, []int{3}, nil)
	// Blocks that aren't reached from block 0 are blocks as any others.
	checkExit(t, withWays(t, nil, []int{2}, []int{1}, []int{0}), []int{4}, []int{2, 4}, []int{1}, []int{0}, nil)
	// Two rings, of which the second one's least place stands behind the first one's.
	checkExit(t, withWays(t, []int{2}, []int{3}, []int{0}, []int{1}), []int{2, 4}, []int{3, 4}, []int{0}, []int{1}, nil)
}

func TestShutByHand(t *testing.T) {
	checkShut(t, withWays(t, nil))
	checkShut(t, withWays(t, []int{0}), 0)
	checkShut(t, withWays(t, []int{1, 2}, []int{3}, []int{3}, nil))
	checkShut(t, withWays(t, []int{1}, []int{2}, []int{1}), 0, 1, 2)
	checkShut(t, withWays(t, []int{1, 2}, []int{1}, nil), 1)
	checkShut(t, withWays(t, nil, []int{2}, []int{1}, []int{0}), 1, 2)
	checkShut(t, withWays(t, []int{1}, []int{0, 2}, nil))
}

// A graph that has as many blocks as there may be has no room for the exit, but
// blocks that are shut.
func TestTheMostBlocks(t *testing.T) {
	const n = api.MaxBlocks
	r := rand.New(rand.NewSource(81))
	for range 200 {
		for _, g := range []api.Graph{anyGraph(t, r, n), anyShut(t, r, n)} {
			checkShut(t, g, shut(g)...)
			checkNothing(t, g)
		}
		checkAll(t, anyGraph(t, r, n-1))
		checkAll(t, anyShut(t, r, n-1))
	}
	up, full := make([][]int, n-1), make([][]int, n-1)
	for i := range n - 1 {
		up[i] = []int{(i + 1) % (n - 1)}
		for k := range n - 1 {
			full[i] = append(full[i], k)
		}
	}
	checkAll(t, withWays(t, make([][]int, n-1)...))
	checkAll(t, withWays(t, up...))
	checkAll(t, withWays(t, full...))
	// Each block goes on at itself and all behind it: each goes on at the exit, too.
	for i := range full {
		full[i] = full[i][i:]
	}
	checkAll(t, withWays(t, full...))
}

// checkNothing checks that a graph has none with an exit.
func checkNothing(t *testing.T, g api.Graph) {
	t.Helper()
	if x, e := pdom.Exit(g); e != api.Shape || len(x.Succ) != 0 || len(x.Pred) != 0 {
		t.Errorf("P8.1: Exit(%v): %v %v, not Shape alone", g, x, e)
	}
	checkTree(t, g)
}

func TestWhatMayNotBe(t *testing.T) {
	tooMany := make([][]int, api.MaxBlocks+1)
	for _, g := range []api.Graph{
		{},
		{Succ: [][]int{}, Pred: [][]int{}},
		{Succ: tooMany, Pred: tooMany},
		{Succ: [][]int{{1}, {}}},
		{Pred: [][]int{{}, {0}}},
		{Succ: [][]int{{1}, {}}, Pred: [][]int{{}, {}}},
		{Succ: [][]int{{}, {}}, Pred: [][]int{{}, {0}}},
		{Succ: [][]int{{1}, {}}, Pred: [][]int{{}, {0}, {}}},
		{Succ: [][]int{{1}, {}}, Pred: [][]int{{}, {1}}},
		{Succ: [][]int{{1, 1}, {}}, Pred: [][]int{{}, {0, 0}}},
		{Succ: [][]int{{1, 0}, {}}, Pred: [][]int{{0}, {0}}},
		{Succ: [][]int{{2}, {}}, Pred: [][]int{{}, {}}},
		{Succ: [][]int{{-1}, {}}, Pred: [][]int{{}, {}}},
		{Succ: [][]int{{0}}, Pred: [][]int{{}}},
		{Succ: [][]int{{math.MaxInt}, {math.MinInt}}, Pred: [][]int{{}, {}}},
		{Succ: [][]int{{1}, {}}, Pred: [][]int{{}, {7}}},
	} {
		checkNothing(t, g)
		checkShut(t, g)
	}
}

// P8.2

func TestTreeByHand(t *testing.T) {
	checkTree(t, withWays(t, nil), 1, -1)
	checkTree(t, withWays(t, []int{0}), 1, -1)
	checkTree(t, withWays(t, []int{1, 2}, []int{3}, []int{3}, nil), 3, 3, 3, 4, -1)
	checkTree(t, withWays(t, []int{1, 2}, nil, nil), 3, 3, 3, -1)
	checkTree(t, withWays(t, []int{1}, []int{2}, []int{3}, nil), 1, 2, 3, 4, -1)
	checkTree(t, withWays(t, nil, nil), 2, 2, -1)
	// A way past 1.
	checkTree(t, withWays(t, []int{1, 2}, []int{2}, nil), 2, 2, 3, -1)
	// A loop with a way out of its midst.
	checkTree(t, withWays(t, []int{1}, []int{2, 3}, []int{1}, nil), 1, 3, 1, 4, -1)
	// The way on at the exit that is added is a way as any other.
	checkTree(t, withWays(t, []int{1}, []int{2}, []int{1}), 3, 3, 1, -1)
	checkTree(t, withWays(t, []int{1, 2}, []int{1}, nil), 3, 3, 3, -1)
	// What isn't reached from block 0 has a place in the tree, too.
	checkTree(t, withWays(t, nil, []int{2}, []int{0}), 3, 2, 0, -1)
}

func TestEveryGraph(t *testing.T) {
	for n := 1; n <= 4; n++ {
		everyGraph(t, n, func(g api.Graph) { checkAll(t, g) })
	}
}

func TestByChance(t *testing.T) {
	r := rand.New(rand.NewSource(82))
	for i := range 1500 {
		n := 5 + i%12
		checkAll(t, anyGraph(t, r, n))
		checkAll(t, anyShut(t, r, n))
	}
	for n := 1; n < api.MaxBlocks; n++ {
		checkAll(t, anyGraph(t, r, n))
		checkAll(t, anyShut(t, r, n))
	}
}

func TestOverIsPostdominates(t *testing.T) {
	r := rand.New(rand.NewSource(83))
	for i := range 400 {
		g := anyGraph(t, r, 1+i%12)
		if i%2 == 0 {
			g = anyShut(t, r, 1+i%12)
		}
		is, made := postdominates(g), pdom.Tree(g)
		for a := range is {
			for b := range is {
				if over := pdom.Over(made, a, b); over != is[a][b] {
					t.Fatalf("P8.2: Over(%v, %d, %d): %v for %v", made, a, b, over, g)
				}
			}
		}
	}
}

func TestOverByHand(t *testing.T) {
	checkOver := func(list []int, a, b int, want bool) {
		t.Helper()
		if over := pdom.Over(list, a, b); over != want {
			t.Errorf("P8.2: Over(%v, %d, %d): %v", list, a, b, over)
		}
	}
	list := []int{3, 3, 3, 4, -1, -2}
	checkOver(list, 3, 0, true)
	checkOver(list, 4, 0, true)
	checkOver(list, 0, 0, true)
	checkOver(list, 0, 3, false)
	checkOver(list, 1, 2, false)
	// What isn't reached, and what is no place.
	checkOver(list, 5, 5, false)
	checkOver(list, 4, 5, false)
	checkOver(list, 5, 0, false)
	for _, no := range []int{-1, -2, 6, api.MaxBlocks, 1 << 32, 1<<32 + 3, math.MaxInt, math.MinInt} {
		checkOver(list, no, 0, false)
		checkOver(list, 4, no, false)
		checkOver(list, no, no, false)
	}
	// What is no tree: no root, two, round and round, to one that isn't reached, to no place.
	for _, l := range [][]int{nil, {}, {-2}, {0}, {-1, -1}, {1, 0, -1}, {-1, 2, -2}, {-1, 2}, {-1, -3}, {-1, math.MaxInt}} {
		for a := -3; a <= len(l)+1; a++ {
			for b := -3; b <= len(l)+1; b++ {
				checkOver(l, a, b, false)
			}
		}
	}
}
