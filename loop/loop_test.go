package loop_test

import (
	"math"
	"math/rand"
	"slices"
	"testing"

	"lockstep/api"
	"lockstep/dom"
	"lockstep/graph"
	"lockstep/loop"
)

func withWays(t *testing.T, succ ...[]int) api.Graph {
	t.Helper()
	g, e := graph.Make(succ)
	if e != api.OK {
		t.Fatalf("Make(%v): %v", succ, e)
	}
	return g
}

// anyGraph makes one by chance, thick or thin.
func anyGraph(t *testing.T, r *rand.Rand, n int) api.Graph {
	t.Helper()
	succ := make([][]int, n)
	for range r.Intn(3*n + 1) {
		addWay(succ, r.Intn(n), r.Intn(n))
	}
	return withWays(t, succ...)
}

// anyLoops makes one by chance in which most blocks are reached, by ways on to
// the next block, and some ways lead back, or ahead, a little.
func anyLoops(t *testing.T, r *rand.Rand, n int) api.Graph {
	t.Helper()
	succ := make([][]int, n)
	for at := range n - 1 {
		if r.Intn(12) > 0 {
			addWay(succ, at, at+1)
		}
		switch r.Intn(4) {
		case 0:
			addWay(succ, at, max(at-r.Intn(6), 0))
		case 1:
			addWay(succ, at, min(at+2+r.Intn(3), n-1))
		}
	}
	return withWays(t, succ...)
}

func addWay(succ [][]int, from, to int) {
	if at, is := slices.BinarySearch(succ[from], to); !is {
		succ[from] = slices.Insert(succ[from], at, to)
	}
}

// everyGraph calls with each graph of n blocks.
func everyGraph(t *testing.T, n int, do func(g api.Graph)) {
	t.Helper()
	for bits := range 1 << (n * n) {
		succ := make([][]int, n)
		for i := range n * n {
			if bits>>i&1 == 1 {
				succ[i/n] = append(succ[i/n], i%n)
			}
		}
		do(withWays(t, succ...))
	}
}

// set is blocks, a bit each.
type set uint64

func (s set) has(x int) bool { return s>>x&1 == 1 }

// reached tells where ways lead from a block, itself too, past none that is
// without.
func reached(succ [][]int, from, without int) set {
	var seen set
	var look func(at int)
	look = func(at int) {
		if at == without || seen.has(at) {
			return
		}
		seen |= 1 << at
		for _, to := range succ[at] {
			look(to)
		}
	}
	look(from)
	return seen
}

// backs tells anew, by the chapter's words, the ways back.
func backs(g api.Graph) [][2]int {
	all := reached(g.Succ, 0, -1)
	var list [][2]int
	for from, ways := range g.Succ {
		for _, to := range ways {
			if all.has(from) && !reached(g.Succ, 0, to).has(from) {
				list = append(list, [2]int{from, to})
			}
		}
	}
	return list
}

// loops tells anew, by the chapter's words, the loops.
func loops(g api.Graph) []api.Loop {
	all := reached(g.Succ, 0, -1)
	var list []api.Loop
	for head := range g.Succ {
		l := api.Loop{Head: head}
		ways := slices.DeleteFunc(backs(g), func(w [2]int) bool { return w[1] != head })
		for x := range g.Succ {
			past := reached(g.Succ, x, head)
			reaches := slices.ContainsFunc(ways, func(w [2]int) bool { return past.has(w[0]) })
			if all.has(x) && (x == head || reaches) {
				l.Body = append(l.Body, x)
			}
		}
		if len(ways) > 0 {
			list = append(list, l)
		}
	}
	return list
}

// goesRound tells whether a block that can be reached from block 0 reaches
// itself, by ways on that aren't of a list.
func goesRound(g api.Graph, but [][2]int) bool {
	succ := make([][]int, len(g.Succ))
	for from, ways := range g.Succ {
		for _, to := range ways {
			if !slices.Contains(but, [2]int{from, to}) {
				succ[from] = append(succ[from], to)
			}
		}
	}
	all := reached(g.Succ, 0, -1)
	for x, ways := range succ {
		for _, to := range ways {
			if all.has(x) && reached(succ, to, -1).has(x) {
				return true
			}
		}
	}
	return false
}

// What is no place of any graph; some would be, if a part of their bits were
// taken for all.
func noPlaces() []int {
	return []int{-1, -2, api.MaxBlocks, api.MaxBlocks + 1, 256, 1 << 32, 1<<32 + 1, math.MaxInt, math.MinInt, math.MinInt + 1}
}

func same(a, b api.Loop) bool { return a.Head == b.Head && slices.Equal(a.Body, b.Body) }

func checkBacks(t *testing.T, g api.Graph, want ...[2]int) {
	t.Helper()
	if l := loop.Backs(g); !slices.Equal(l, want) {
		t.Errorf("P10.1: Backs(%v): %v, not %v", g.Succ, l, want)
	}
}

// checkLoops checks All, and Depth of each block and of what is none.
func checkLoops(t *testing.T, g api.Graph, want ...api.Loop) {
	t.Helper()
	if l := loop.All(g); !slices.EqualFunc(l, want, same) {
		t.Errorf("P10.1: All(%v): %v, not %v", g.Succ, l, want)
	}
	for x := -2; x < len(g.Succ)+3; x++ {
		depth := 0
		for _, l := range want {
			if slices.Contains(l.Body, x) {
				depth++
			}
		}
		checkDepth(t, g, x, depth)
	}
}

func checkDepth(t *testing.T, g api.Graph, x, want int) {
	t.Helper()
	if d := loop.Depth(g, x); d != want {
		t.Errorf("P10.1: Depth(%v, %d): %d, not %d", g.Succ, x, d, want)
	}
}

func checkRound(t *testing.T, g api.Graph, reducible, forward bool) {
	t.Helper()
	if is := loop.Reducible(g); is != reducible {
		t.Errorf("P10.2: Reducible(%v): %v", g.Succ, is)
	}
	if is := loop.Forward(g); is != forward {
		t.Errorf("P10.2: Forward(%v): %v", g.Succ, is)
	}
}

// checkWhatFollows checks that a head dominates its loop, and how two lie to each
// other.
func checkWhatFollows(t *testing.T, g api.Graph) {
	t.Helper()
	tree, all := dom.Tree(g, 0), loop.All(g)
	for _, l := range all {
		for _, x := range l.Body {
			if !dom.Over(tree, l.Head, x) {
				t.Errorf("P10.3: %v: %d doesn't dominate %d of its loop", g.Succ, l.Head, x)
			}
		}
	}
	for i, l := range all {
		for _, m := range all[:i] {
			if loop.Reducible(g) && !lieWell(l, m) {
				t.Errorf("P10.3: %v: %v and %v", g.Succ, l, m)
			}
		}
	}
}

// lieWell tells whether two loops are apart, one within the other, or have one head.
func lieWell(l, m api.Loop) bool {
	both := 0
	for _, x := range l.Body {
		if slices.Contains(m.Body, x) {
			both++
		}
	}
	return both == 0 || both == len(l.Body) || both == len(m.Body) || l.Head == m.Head
}

// checkAll checks all that is told of a graph.
func checkAll(t *testing.T, g api.Graph) {
	t.Helper()
	checkBacks(t, g, backs(g)...)
	checkLoops(t, g, loops(g)...)
	checkRound(t, g, !goesRound(g, backs(g)), !goesRound(g, nil))
	checkWhatFollows(t, g)
}

// P10.1

func TestNoLoops(t *testing.T) {
	for _, g := range []api.Graph{
		withWays(t, nil),
		withWays(t, []int{1}, []int{2}, nil),
		withWays(t, []int{1, 2}, []int{3}, []int{3}, nil),
		// Ways to lesser places that none can go round by.
		withWays(t, []int{3}, nil, []int{1}, []int{2}),
	} {
		checkBacks(t, g)
		checkLoops(t, g)
	}
}

func TestLoopsByHand(t *testing.T) {
	// The chapter's example.
	g := withWays(t, []int{1}, []int{2, 3}, []int{1}, nil)
	checkBacks(t, g, [2]int{2, 1})
	checkLoops(t, g, api.Loop{Head: 1, Body: []int{1, 2}})
	// A block that goes on at itself; block 0, too.
	g = withWays(t, []int{1}, []int{1, 2}, nil)
	checkBacks(t, g, [2]int{1, 1})
	checkLoops(t, g, api.Loop{Head: 1, Body: []int{1}})
	g = withWays(t, []int{0})
	checkBacks(t, g, [2]int{0, 0})
	checkLoops(t, g, api.Loop{Head: 0, Body: []int{0}})
	// A part that parts and meets, and one that is left from within: 5 is no part of it.
	g = withWays(t, []int{1}, []int{2, 3}, []int{4, 5}, []int{4}, []int{1}, nil)
	checkBacks(t, g, [2]int{4, 1})
	checkLoops(t, g, api.Loop{Head: 1, Body: []int{1, 2, 3, 4}})
	// Two side by side, the one behind of lesser places.
	g = withWays(t, []int{4}, []int{2}, []int{1, 3}, nil, []int{5}, []int{1, 4})
	checkBacks(t, g, [2]int{2, 1}, [2]int{5, 4})
	checkLoops(t, g, api.Loop{Head: 1, Body: []int{1, 2}}, api.Loop{Head: 4, Body: []int{4, 5}})
}

func TestOneLoopOfManyWaysBack(t *testing.T) {
	g := withWays(t, []int{1}, []int{2, 3, 6}, []int{1, 5}, []int{4}, []int{1}, nil, nil)
	checkBacks(t, g, [2]int{2, 1}, [2]int{4, 1})
	checkLoops(t, g, api.Loop{Head: 1, Body: []int{1, 2, 3, 4}})
	// One of them from the head itself, and one from what is on the other's way.
	g = withWays(t, []int{1}, []int{1, 2}, []int{1, 3}, []int{1, 4}, nil)
	checkBacks(t, g, [2]int{1, 1}, [2]int{2, 1}, [2]int{3, 1})
	checkLoops(t, g, api.Loop{Head: 1, Body: []int{1, 2, 3}})
}

func TestOneBlockOfManyWaysBack(t *testing.T) {
	// By rising heads, though the farthest head is the least one.
	g := withWays(t, []int{1}, []int{2}, []int{0, 1, 2, 3}, nil)
	checkBacks(t, g, [2]int{2, 0}, [2]int{2, 1}, [2]int{2, 2})
	checkLoops(t, g, api.Loop{Head: 0, Body: []int{0, 1, 2}}, api.Loop{Head: 1, Body: []int{1, 2}}, api.Loop{Head: 2, Body: []int{2}})
	// One loop in another one, whose head has the greater place.
	g = withWays(t, []int{3}, []int{2}, []int{1, 4}, []int{1}, []int{3, 5}, nil)
	checkBacks(t, g, [2]int{2, 1}, [2]int{4, 3})
	checkLoops(t, g, api.Loop{Head: 1, Body: []int{1, 2}}, api.Loop{Head: 3, Body: []int{1, 2, 3, 4}})
}

func TestLoopsOfTwoWaysIn(t *testing.T) {
	// A ring with two ways in has no head.
	g := withWays(t, []int{1, 2}, []int{2}, []int{1})
	checkBacks(t, g)
	checkLoops(t, g)
	// In a loop, it is a part of that.
	g = withWays(t, []int{1}, []int{2, 3}, []int{3}, []int{2, 4}, []int{1, 5}, nil)
	checkBacks(t, g, [2]int{4, 1})
	checkLoops(t, g, api.Loop{Head: 1, Body: []int{1, 2, 3, 4}})
	// One that only leads past the head again isn't: 3 reaches 2 by 1 alone.
	g = withWays(t, []int{1, 3}, []int{2}, []int{1}, []int{1})
	checkBacks(t, g, [2]int{2, 1})
	checkLoops(t, g, api.Loop{Head: 1, Body: []int{1, 2}})
}

func TestLoopsOfWhatIsNotReached(t *testing.T) {
	// None goes round in them, and none of them is in a loop.
	for _, g := range []api.Graph{
		withWays(t, nil, []int{1}),
		withWays(t, nil, []int{2}, []int{1}),
		withWays(t, nil, []int{0, 1}),
	} {
		checkBacks(t, g)
		checkLoops(t, g)
	}
	// 3 goes on at a loop's head, 4 at its other block; both go round, too.
	g := withWays(t, []int{1}, []int{2}, []int{1}, []int{1, 4}, []int{2, 3})
	checkBacks(t, g, [2]int{2, 1})
	checkLoops(t, g, api.Loop{Head: 1, Body: []int{1, 2}})
}

func TestDepthByHand(t *testing.T) {
	// Three, one within the other, and one beside; one head of two ways back counts once.
	g := withWays(t, []int{1}, []int{2}, []int{3}, []int{3, 4}, []int{2, 5}, []int{1, 6}, []int{7}, []int{6, 8, 9}, []int{6}, nil, []int{2, 10})
	for x, want := range []int{0, 1, 2, 3, 2, 1, 1, 1, 1, 0, 0, 0} {
		checkDepth(t, g, x, want)
	}
}

func TestDepthOfWhatIsNoBlock(t *testing.T) {
	for _, g := range []api.Graph{withWays(t, []int{0}), withWays(t, []int{1}, []int{0, 1})} {
		for _, no := range append(noPlaces(), len(g.Succ)) {
			checkDepth(t, g, no, 0)
		}
	}
}

// P10.2

func TestReducibleByHand(t *testing.T) {
	// Nothing goes round.
	checkRound(t, withWays(t, nil), true, true)
	checkRound(t, withWays(t, []int{1, 2}, []int{3}, []int{3}, nil), true, true)
	checkRound(t, withWays(t, []int{3}, nil, []int{1}, []int{2}), true, true)
	checkRound(t, withWays(t, []int{1, 2}, nil, []int{1}), true, true)
	// By ways back alone.
	checkRound(t, withWays(t, []int{0}), true, false)
	checkRound(t, withWays(t, []int{1}, []int{0}), true, false)
	checkRound(t, withWays(t, []int{1}, []int{2, 3}, []int{1}, nil), true, false)
	checkRound(t, withWays(t, []int{1}, []int{2}, []int{0, 1, 2, 3}, nil), true, false)
	// Without them, too; one of the ring's blocks going on at itself is no way out of that.
	checkRound(t, withWays(t, []int{1, 2}, []int{2}, []int{1}), false, false)
	checkRound(t, withWays(t, []int{1, 2}, []int{1, 2}, []int{1, 2}), false, false)
	checkRound(t, withWays(t, []int{1, 3}, []int{2}, []int{3, 4}, []int{1}, nil), false, false)
	// Deep in a loop.
	checkRound(t, withWays(t, []int{1}, []int{2, 3}, []int{3}, []int{2, 4}, []int{1, 5}, nil), false, false)
}

func TestReducibleOfWhatIsNotReached(t *testing.T) {
	for _, ring := range [][][]int{
		{nil, {1}, nil, nil},
		{nil, {2}, {1}, nil},
		{nil, {2, 3}, {3}, {0, 2}},
	} {
		checkRound(t, withWays(t, ring...), true, true)
	}
	// A way into a loop's midst from what isn't reached is none.
	checkRound(t, withWays(t, []int{1}, []int{2}, []int{1}, []int{2, 3}), true, false)
	// Nor does it help one that isn't reducible.
	checkRound(t, withWays(t, []int{1, 2}, []int{2}, []int{1}, []int{1, 3}), false, false)
}

// All

func TestEveryGraph(t *testing.T) {
	for n := 1; n <= 4; n++ {
		everyGraph(t, n, func(g api.Graph) { checkAll(t, g) })
	}
}

func TestByChance(t *testing.T) {
	r := rand.New(rand.NewSource(101))
	for i := range 1000 {
		n := 5 + i%12
		checkAll(t, anyGraph(t, r, n))
		checkAll(t, anyLoops(t, r, n))
	}
	for n := 17; n <= api.MaxBlocks; n++ {
		checkAll(t, anyGraph(t, r, n))
		checkAll(t, anyLoops(t, r, n))
	}
}

// up gives the places from one on, ahead of another one.
func up(from, to int) []int {
	var list []int
	for at := from; at < to; at++ {
		list = append(list, at)
	}
	return list
}

func TestTheMostLoops(t *testing.T) {
	// The last block goes back to all, itself too.
	const n = api.MaxBlocks
	succ := make([][]int, n)
	var ways [][2]int
	var all []api.Loop
	for at := range n {
		succ[at] = []int{at + 1}
		ways = append(ways, [2]int{n - 1, at})
		all = append(all, api.Loop{Head: at, Body: up(at, n)})
	}
	succ[n-1] = up(0, n)
	g := withWays(t, succ...)
	checkBacks(t, g, ways...)
	checkLoops(t, g, all...)
	checkRound(t, g, true, false)
	checkDepth(t, g, n-1, n)
}

func TestTheMostBlocks(t *testing.T) {
	const n = api.MaxBlocks
	chain, ring, full := make([][]int, n), make([][]int, n), make([][]int, n)
	for at := range n {
		chain[at], ring[at], full[at] = []int{at + 1}, []int{(at + 1) % n}, up(0, n)
	}
	chain[n-1] = nil
	checkRound(t, withWays(t, chain...), true, true)
	checkLoops(t, withWays(t, chain...))
	checkRound(t, withWays(t, ring...), true, false)
	checkLoops(t, withWays(t, ring...), api.Loop{Head: 0, Body: up(0, n)})
	// Where each goes on at all, only block 0 and itself dominate a block.
	checkRound(t, withWays(t, full...), false, false)
	all := []api.Loop{{Head: 0, Body: up(0, n)}}
	for at := 1; at < n; at++ {
		all = append(all, api.Loop{Head: at, Body: []int{at}})
	}
	checkLoops(t, withWays(t, full...), all...)
}

func TestWhatMayNotBe(t *testing.T) {
	tooMany := make([][]int, api.MaxBlocks+1)
	for _, g := range []api.Graph{
		{},
		{Succ: [][]int{}, Pred: [][]int{}},
		{Succ: tooMany, Pred: tooMany},
		{Succ: [][]int{{1}, {}}},
		{Succ: [][]int{{0}}},
		{Pred: [][]int{{}, {0}}},
		{Succ: [][]int{{0, 1}, {}}, Pred: [][]int{{0}, {}}},
		{Succ: [][]int{{0}, {}}, Pred: [][]int{{0}, {0}}},
		{Succ: [][]int{{0, 1}, {}}, Pred: [][]int{{0}, {0}, {}}},
		{Succ: [][]int{{0, 1}, {}}, Pred: [][]int{{0}, {1}}},
		{Succ: [][]int{{1, 1}, {}}, Pred: [][]int{{}, {0, 0}}},
		{Succ: [][]int{{1, 0}, {}}, Pred: [][]int{{0}, {0}}},
		{Succ: [][]int{{0, 2}, {}}, Pred: [][]int{{0}, {}}},
		{Succ: [][]int{{-1, 0}, {}}, Pred: [][]int{{0}, {}}},
		{Succ: [][]int{{math.MaxInt}, {math.MinInt}}, Pred: [][]int{{}, {}}},
		{Succ: [][]int{{1}, {}}, Pred: [][]int{{}, {7}}},
		{Succ: [][]int{{1}, {}}, Pred: [][]int{{}, {}}},
	} {
		checkBacks(t, g)
		checkLoops(t, g)
		checkRound(t, g, false, false)
		for _, x := range noPlaces() {
			checkDepth(t, g, x, 0)
		}
	}
}
