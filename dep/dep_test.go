package dep_test

import (
	"math"
	"math/rand"
	"slices"
	"testing"

	"lockstep/api"
	"lockstep/dep"
	"lockstep/graph"
)

func withWays(t *testing.T, succ ...[]int) api.Graph {
	t.Helper()
	g, e := graph.Make(succ)
	if e != api.OK {
		t.Fatalf("Make(%v): %v", succ, e)
	}
	return g
}

// anyGraph makes one by chance, thick or thin.
func anyGraph(t *testing.T, r *rand.Rand, n int) api.Graph {
	t.Helper()
	succ := make([][]int, n)
	for range r.Intn(3*n + 1) {
		from, to := r.Intn(n), r.Intn(n)
		if at, is := slices.BinarySearch(succ[from], to); !is {
			succ[from] = slices.Insert(succ[from], at, to)
		}
	}
	return withWays(t, succ...)
}

// anyTwoWays makes one by chance as functions have them: of two ways on at most,
// most of them to blocks nearby.
func anyTwoWays(t *testing.T, r *rand.Rand, n int) api.Graph {
	t.Helper()
	succ := make([][]int, n)
	for at := range succ {
		for range min(r.Intn(8), 2) {
			to := r.Intn(n)
			if r.Intn(4) > 0 {
				to = min(max(at-2+r.Intn(6), 0), n-1)
			}
			if i, is := slices.BinarySearch(succ[at], to); !is {
				succ[at] = slices.Insert(succ[at], i, to)
			}
		}
	}
	return withWays(t, succ...)
}

// everyGraph calls with each graph of n blocks.
func everyGraph(t *testing.T, n int, do func(g api.Graph)) {
	t.Helper()
	for bits := range 1 << (n * n) {
		succ := make([][]int, n)
		for i := range n * n {
			if bits>>i&1 == 1 {
				succ[i/n] = append(succ[i/n], i%n)
			}
		}
		do(withWays(t, succ...))
	}
}

// reached marks where ways lead from a block, past none that is without.
func reached(succ [][]int, from, without int) []bool {
	seen := make([]bool, len(succ))
	var look func(at int)
	look = func(at int) {
		if at == without || seen[at] {
			return
		}
		seen[at] = true
		for _, to := range succ[at] {
			look(to)
		}
	}
	look(from)
	return seen
}

// withExit tells anew, by layer 8's words, the Succ of the graph with its exit.
func withExit(g api.Graph) [][]int {
	exit := len(g.Succ)
	succ := make([][]int, exit+1)
	for at, list := range g.Succ {
		succ[at] = append(succ[at], list...)
		if len(list) == 0 {
			succ[at] = []int{exit}
		}
	}
	for at := 0; at < exit; at++ {
		if !reached(succ, at, -1)[exit] {
			succ[at] = append(succ[at], exit)
		}
	}
	return succ
}

// hanging tells anew, by the chapter's words, what hangs on what.
func hanging(g api.Graph) []api.Dep {
	exit := len(g.Succ)
	succ := withExit(g)
	is := make([][]bool, exit+1)
	for x := range succ {
		is[x] = make([]bool, exit+1)
		for b := range succ {
			is[x][b] = !reached(succ, b, x)[exit]
		}
	}
	var all []api.Dep
	for x := range exit {
		for a := range exit {
			for _, b := range succ[a] {
				if len(succ[a]) > 1 && is[x][b] && (!is[x][a] || x == a) {
					all = append(all, api.Dep{Block: x, On: a, To: b})
				}
			}
		}
	}
	return all
}

// frontiers tells anew, by the chapter's words, the frontier of each block.
func frontiers(g api.Graph) [][]int {
	n := len(g.Succ)
	lists := make([][]int, n)
	all := reached(g.Succ, 0, -1)
	for x := range n {
		past := reached(g.Succ, 0, x)
		under := func(at int) bool { return all[x] && all[at] && !past[at] }
		for at := range n {
			leads := false
			for from := range n {
				leads = leads || under(from) && slices.Contains(g.Succ[from], at)
			}
			if leads && (!under(at) || at == x) {
				lists[x] = append(lists[x], at)
			}
		}
	}
	return lists
}

// of gives those of a list that are of a block.
func of(list []api.Dep, x int) []api.Dep {
	var out []api.Dep
	for _, d := range list {
		if d.Block == x {
			out = append(out, d)
		}
	}
	return out
}

// checkHanging checks All, and Of of each block and of what is none.
func checkHanging(t *testing.T, g api.Graph, want ...api.Dep) {
	t.Helper()
	if l := dep.All(g); !slices.Equal(l, want) {
		t.Errorf("P9.1: All(%v): %v, not %v", g, l, want)
	}
	for x := -2; x < len(g.Succ)+3; x++ {
		if l := dep.Of(g, x); !slices.Equal(l, of(want, x)) {
			t.Errorf("P9.1: Of(%v, %d): %v, not %v", g, x, l, of(want, x))
		}
	}
}

func checkFrontier(t *testing.T, g api.Graph, x int, want ...int) {
	t.Helper()
	if l := dep.Frontier(g, x); !slices.Equal(l, want) {
		t.Errorf("P9.2: Frontier(%v, %d): %v, not %v", g, x, l, want)
	}
}

// checkFrontiers checks Frontier of each block and of what is none.
func checkFrontiers(t *testing.T, g api.Graph, want ...[]int) {
	t.Helper()
	for x, list := range want {
		checkFrontier(t, g, x, list...)
	}
	for _, no := range []int{-2, -1, len(want), len(want) + 1} {
		checkFrontier(t, g, no)
	}
}

// checkAll checks all that is told of a graph that has room for an exit.
func checkAll(t *testing.T, g api.Graph) {
	t.Helper()
	checkHanging(t, g, hanging(g)...)
	checkFrontiers(t, g, frontiers(g)...)
}

// What is no place of any graph.
func noPlaces() []int {
	return []int{-1, -2, api.MaxBlocks, api.MaxBlocks + 1, 1 << 32, 1<<32 + 1, math.MaxInt, math.MinInt}
}

// P9.1

func TestHangingByHand(t *testing.T) {
	// Nothing hangs on one that ends it all, or goes on by one way.
	checkHanging(t, withWays(t, nil))
	checkHanging(t, withWays(t, []int{1}, []int{2}, nil))
	// The chapter's example, and one way past.
	checkHanging(t, withWays(t, []int{1, 2}, []int{3}, []int{3}, nil), api.Dep{Block: 1, On: 0, To: 1}, api.Dep{Block: 2, On: 0, To: 2})
	checkHanging(t, withWays(t, []int{1, 2}, []int{2}, nil), api.Dep{Block: 1, On: 0, To: 1})
	// Two that meet at the exit alone.
	checkHanging(t, withWays(t, []int{1, 2}, nil, nil), api.Dep{Block: 1, On: 0, To: 1}, api.Dep{Block: 2, On: 0, To: 2})
	// Some one behind the other, all by one way on.
	checkHanging(t, withWays(t, []int{1, 4}, []int{2}, []int{3}, []int{4}, nil),
		api.Dep{Block: 1, On: 0, To: 1}, api.Dep{Block: 2, On: 0, To: 1}, api.Dep{Block: 3, On: 0, To: 1})
	// One part in another one: 3 hangs on 1 alone, not on what that hangs on.
	checkHanging(t, withWays(t, []int{1, 2}, []int{3, 4}, []int{5}, []int{4}, []int{5}, nil),
		api.Dep{Block: 1, On: 0, To: 1}, api.Dep{Block: 2, On: 0, To: 2}, api.Dep{Block: 3, On: 1, To: 3}, api.Dep{Block: 4, On: 0, To: 1})
	// One that hangs on two, and one that hangs on one by two of its three ways on.
	checkHanging(t, withWays(t, []int{1, 2}, []int{2, 3}, []int{3}, nil),
		api.Dep{Block: 1, On: 0, To: 1}, api.Dep{Block: 2, On: 0, To: 2}, api.Dep{Block: 2, On: 1, To: 2})
	checkHanging(t, withWays(t, []int{1, 2, 3}, []int{2}, []int{3}, nil),
		api.Dep{Block: 1, On: 0, To: 1}, api.Dep{Block: 2, On: 0, To: 1}, api.Dep{Block: 2, On: 0, To: 2})
}

func TestHangingRoundAndRound(t *testing.T) {
	// A loop's test hangs on itself, by the way on that leads back.
	checkHanging(t, withWays(t, []int{1}, []int{1, 2}, nil), api.Dep{Block: 1, On: 1, To: 1})
	checkHanging(t, withWays(t, []int{1}, []int{2, 3}, []int{1}, nil), api.Dep{Block: 1, On: 1, To: 2}, api.Dep{Block: 2, On: 1, To: 2})
	// A loop that is left from its end.
	checkHanging(t, withWays(t, []int{1}, []int{2}, []int{1, 3}, nil), api.Dep{Block: 1, On: 2, To: 1}, api.Dep{Block: 2, On: 2, To: 1})
	// One that is left from two places, to two: 3 hangs on 0 alone, for from 0 one may leave by 2, too.
	checkHanging(t, withWays(t, []int{1, 3}, []int{0, 2}, nil, nil),
		api.Dep{Block: 0, On: 1, To: 0}, api.Dep{Block: 1, On: 0, To: 1}, api.Dep{Block: 2, On: 1, To: 2}, api.Dep{Block: 3, On: 0, To: 3})
}

func TestHangingOfWhatIsShut(t *testing.T) {
	// The way on at the exit that is added counts: more than one way leads on.
	checkHanging(t, withWays(t, []int{0}), api.Dep{Block: 0, On: 0, To: 0})
	checkHanging(t, withWays(t, []int{1}, []int{1}), api.Dep{Block: 1, On: 0, To: 1}, api.Dep{Block: 1, On: 1, To: 1})
	checkHanging(t, withWays(t, []int{1}, []int{0}), api.Dep{Block: 0, On: 0, To: 1}, api.Dep{Block: 1, On: 0, To: 1})
	// Only one way leads on from 2 and from 1.
	checkHanging(t, withWays(t, []int{1}, []int{2}, []int{0}), api.Dep{Block: 0, On: 0, To: 1}, api.Dep{Block: 1, On: 0, To: 1}, api.Dep{Block: 2, On: 0, To: 1})
}

func TestHangingOfWhatIsNotReached(t *testing.T) {
	// Blocks that aren't reached from block 0 are blocks as any others.
	checkHanging(t, withWays(t, nil, []int{0, 2}, []int{0}), api.Dep{Block: 2, On: 1, To: 2})
	checkHanging(t, withWays(t, nil, []int{1}), api.Dep{Block: 1, On: 1, To: 1})
	// 1 goes on at 0, too, so that 0 hangs on it, which is reached from nowhere.
	checkHanging(t, withWays(t, nil, []int{0, 2}, nil), api.Dep{Block: 0, On: 1, To: 0}, api.Dep{Block: 2, On: 1, To: 2})
}

func TestOfWhatIsNoBlock(t *testing.T) {
	for _, g := range []api.Graph{withWays(t, []int{1, 2}, []int{3}, []int{3}, nil), withWays(t, []int{0})} {
		for _, no := range append(noPlaces(), len(g.Succ)) {
			if l := dep.Of(g, no); len(l) != 0 {
				t.Errorf("P9.1: Of(%v, %d): %v", g, no, l)
			}
		}
	}
}

// P9.2

func TestFrontierByHand(t *testing.T) {
	checkFrontiers(t, withWays(t, nil), nil)
	checkFrontiers(t, withWays(t, []int{1}, []int{2}, nil), nil, nil, nil)
	checkFrontiers(t, withWays(t, []int{1, 2}, []int{3}, []int{3}, nil), nil, []int{3}, []int{3}, nil)
	checkFrontiers(t, withWays(t, []int{1, 2}, []int{2}, nil), nil, []int{2}, nil)
	// A way leads from 3, that 1 dominates, but the one on from there, from 4, doesn't count.
	checkFrontiers(t, withWays(t, []int{1, 2}, []int{3}, []int{4}, []int{4}, []int{5}, nil), nil, []int{4}, []int{4}, []int{4}, nil, nil)
	// More than one, rising, though the lesser one comes from a later block.
	checkFrontiers(t, withWays(t, []int{1, 2, 3}, nil, nil, []int{2, 4}, []int{1}), nil, nil, nil, []int{1, 2}, []int{1})
}

func TestFrontierRoundAndRound(t *testing.T) {
	// It may be itself, but none that it dominates beside.
	checkFrontiers(t, withWays(t, []int{0}), []int{0})
	checkFrontiers(t, withWays(t, []int{1}, []int{1, 2}, nil), nil, []int{1}, nil)
	checkFrontiers(t, withWays(t, []int{1}, []int{2}, []int{3}, []int{1, 2}), nil, []int{1}, []int{1, 2}, []int{1, 2})
	// Block 0, too, which dominates all.
	checkFrontiers(t, withWays(t, []int{1}, []int{0, 2}, []int{0}), []int{0}, []int{0}, []int{0})
	// A ring with two ways in.
	checkFrontiers(t, withWays(t, []int{1, 2}, []int{2}, []int{1}), nil, []int{2}, []int{1})
}

func TestFrontierOfWhatIsNotReached(t *testing.T) {
	// 2 isn't reached, has no frontier, and what it goes on at isn't dominated less for it.
	checkFrontiers(t, withWays(t, []int{1}, nil, []int{1, 2}), nil, nil, nil)
	checkFrontiers(t, withWays(t, []int{1, 3}, []int{3}, []int{1, 2}, nil), nil, []int{3}, nil, nil)
}

func TestFrontierOfWhatIsNoBlock(t *testing.T) {
	for _, g := range []api.Graph{withWays(t, []int{1, 2}, []int{3}, []int{3}, nil), withWays(t, []int{0})} {
		for _, no := range append(noPlaces(), len(g.Succ)) {
			checkFrontier(t, g, no)
		}
	}
}

// Both

func TestEveryGraph(t *testing.T) {
	for n := 1; n <= 4; n++ {
		everyGraph(t, n, func(g api.Graph) { checkAll(t, g) })
	}
}

func TestByChance(t *testing.T) {
	r := rand.New(rand.NewSource(91))
	for i := range 1000 {
		n := 5 + i%12
		checkAll(t, anyGraph(t, r, n))
		checkAll(t, anyTwoWays(t, r, n))
	}
	for n := 17; n < api.MaxBlocks; n += 5 {
		checkAll(t, anyGraph(t, r, n))
		checkAll(t, anyTwoWays(t, r, n))
	}
}

// checkNoExit checks that nothing hangs on anything.
func checkNoExit(t *testing.T, g api.Graph) {
	t.Helper()
	if l := dep.All(g); len(l) != 0 {
		t.Errorf("P9.1: All(%v): %v, not nothing", g, l)
	}
	for _, x := range append(noPlaces(), 0, 1, len(g.Succ)-1, len(g.Succ)) {
		if l := dep.Of(g, x); len(l) != 0 {
			t.Errorf("P9.1: Of(%v, %d): %v, not nothing", g, x, l)
		}
	}
}

// A graph that has as many blocks as there may be has no room for the exit, but
// blocks that have frontiers.
func TestTheMostBlocks(t *testing.T) {
	const n = api.MaxBlocks
	r := rand.New(rand.NewSource(92))
	for range 20 {
		for _, g := range []api.Graph{anyGraph(t, r, n), anyTwoWays(t, r, n)} {
			checkNoExit(t, g)
			checkFrontiers(t, g, frontiers(g)...)
		}
		checkAll(t, anyGraph(t, r, n-1))
		checkAll(t, anyTwoWays(t, r, n-1))
	}
	full, ladder := make([][]int, n-1), make([][]int, n-1)
	for i := range n - 1 {
		for k := range n - 1 {
			full[i] = append(full[i], k)
		}
		if i+1 < n-1 {
			ladder[i] = []int{0, i + 1}
		}
	}
	checkAll(t, withWays(t, full...))
	checkAll(t, withWays(t, ladder...))
	checkAll(t, withWays(t, make([][]int, n-1)...))
}

func TestWhatMayNotBe(t *testing.T) {
	tooMany := make([][]int, api.MaxBlocks+1)
	for _, g := range []api.Graph{
		{},
		{Succ: [][]int{}, Pred: [][]int{}},
		{Succ: tooMany, Pred: tooMany},
		{Succ: [][]int{{1}, {}}},
		{Pred: [][]int{{}, {0}}},
		{Succ: [][]int{{0, 1}, {}}, Pred: [][]int{{0}, {}}},
		{Succ: [][]int{{0}, {}}, Pred: [][]int{{0}, {0}}},
		{Succ: [][]int{{0, 1}, {}}, Pred: [][]int{{0}, {0}, {}}},
		{Succ: [][]int{{0, 1}, {}}, Pred: [][]int{{0}, {1}}},
		{Succ: [][]int{{1, 1}, {}}, Pred: [][]int{{}, {0, 0}}},
		{Succ: [][]int{{1, 0}, {}}, Pred: [][]int{{0}, {0}}},
		{Succ: [][]int{{0, 2}, {}}, Pred: [][]int{{0}, {}}},
		{Succ: [][]int{{-1, 0}, {}}, Pred: [][]int{{0}, {}}},
		{Succ: [][]int{{math.MaxInt}, {math.MinInt}}, Pred: [][]int{{}, {}}},
		{Succ: [][]int{{1}, {}}, Pred: [][]int{{}, {7}}},
	} {
		checkNoExit(t, g)
		for _, x := range append(noPlaces(), 0, 1, 2) {
			checkFrontier(t, g, x)
		}
	}
}
