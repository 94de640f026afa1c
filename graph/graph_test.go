package graph_test

import (
	"math"
	"math/rand"
	"slices"
	"testing"

	"lockstep/api"
	"lockstep/graph"
)

// notPlaces are no places of blocks, however many there are; some would be, if
// a part of their bits were taken for all.
var notPlaces = []int{-1, -2, -64, api.MaxBlocks, api.MaxBlocks + 1, 256, 1 << 32, 1<<32 + 1, 1<<63 - 1, math.MinInt, math.MinInt + 1}

// edges is a graph told anew: which block goes on at which.
type edges [][]bool

func noEdges(n int) edges {
	m := make(edges, n)
	for i := range m {
		m[i] = make([]bool, n)
	}
	return m
}

// lists gives what a graph of these edges must be.
func (m edges) lists() api.Graph {
	g := api.Graph{Succ: make([][]int, len(m)), Pred: make([][]int, len(m))}
	for from := range m {
		for to := range m {
			if m[from][to] {
				g.Succ[from] = append(g.Succ[from], to)
			}
			if m[to][from] {
				g.Pred[from] = append(g.Pred[from], to)
			}
		}
	}
	return g
}

// everyGraph calls with each graph of n blocks.
func everyGraph(n int, do func(m edges)) {
	for bits := range 1 << (n * n) {
		m := noEdges(n)
		for i := range n * n {
			m[i/n][i%n] = bits>>i&1 == 1
		}
		do(m)
	}
}

// anyEdges makes a graph by chance, thick or thin.
func anyEdges(r *rand.Rand, n int) edges {
	m := noEdges(n)
	for range r.Intn(3*n + 1) {
		m[r.Intn(n)][r.Intn(n)] = true
	}
	return m
}

// function makes one of ends alone.
func function(ends ...api.End) api.Func {
	f := api.Func{}
	for _, e := range ends {
		f.Blocks = append(f.Blocks, api.Block{End: e})
	}
	return f
}

func ret() api.End          { return api.End{Kind: api.Ret} }
func trap() api.End         { return api.End{Kind: api.Trap} }
func jump(to int) api.End   { return api.End{Kind: api.Jump, To: []int{to}} }
func fork(a, b int) api.End { return api.End{Kind: api.If, Arg: 1, To: []int{a, b}} }

// anyFunction makes one that has a shape, and tells its edges.
func anyFunction(r *rand.Rand, n int) (api.Func, edges) {
	f, m := api.Func{}, noEdges(n)
	for from := range n {
		e := []api.End{ret(), trap()}[r.Intn(2)]
		if n > 1 {
			a, b := 1+r.Intn(n-1), 1+r.Intn(n-1)
			e = []api.End{e, jump(a), fork(a, b), fork(a, b)}[r.Intn(4)]
		}
		for _, to := range e.To {
			m[from][to] = true
		}
		f.Blocks = append(f.Blocks, api.Block{End: e})
	}
	return f, m
}

func sameLists(a, b [][]int) bool { return slices.EqualFunc(a, b, slices.Equal[[]int]) }

func same(a, b api.Graph) bool { return sameLists(a.Succ, b.Succ) && sameLists(a.Pred, b.Pred) }

func isNothing(g api.Graph) bool { return len(g.Succ) == 0 && len(g.Pred) == 0 }

func copyLists(l [][]int) [][]int {
	out := make([][]int, len(l))
	for i := range l {
		out[i] = slices.Clone(l[i])
	}
	return out
}

func copyGraph(g api.Graph) api.Graph {
	return api.Graph{Succ: copyLists(g.Succ), Pred: copyLists(g.Pred)}
}

func checkOf(t *testing.T, f api.Func, want api.Graph) {
	t.Helper()
	if g, e := graph.Of(f); e != api.OK || !same(g, want) {
		t.Errorf("P6.1: Of(%v): %v %v, not %v", f, g, e, want)
	}
}

func checkNoShape(t *testing.T, f api.Func) {
	t.Helper()
	if g, e := graph.Of(f); e != api.Shape || !isNothing(g) {
		t.Errorf("P6.1: Of(%v): %v %v, not Shape alone", f, g, e)
	}
}

// Of

func TestOfByHand(t *testing.T) {
	checkOf(t, function(ret()), api.Graph{Succ: [][]int{{}}, Pred: [][]int{{}}})
	checkOf(t, function(trap()), api.Graph{Succ: [][]int{{}}, Pred: [][]int{{}}})
	checkOf(t, function(jump(1), ret()), api.Graph{Succ: [][]int{{1}, {}}, Pred: [][]int{{}, {0}}})
	// Both ways of an If, whichever is named first, rise; the same one stands once.
	diamond := api.Graph{Succ: [][]int{{1, 2}, {3}, {3}, {}}, Pred: [][]int{{}, {0}, {0}, {1, 2}}}
	checkOf(t, function(fork(1, 2), jump(3), jump(3), ret()), diamond)
	checkOf(t, function(fork(2, 1), fork(3, 3), jump(3), trap()), diamond)
	// A block that goes on at itself, ways round, and blocks that none goes on at.
	checkOf(t, function(jump(1), fork(1, 2), jump(1), fork(3, 2), fork(4, 4)), api.Graph{
		Succ: [][]int{{1}, {1, 2}, {1}, {2, 3}, {4}},
		Pred: [][]int{{}, {0, 1, 2}, {1, 3}, {3}, {4}},
	})
}

func TestOfByChance(t *testing.T) {
	r := rand.New(rand.NewSource(61))
	for i := range 3000 {
		f, m := anyFunction(r, 1+i%api.MaxBlocks)
		checkOf(t, f, m.lists())
	}
}

func TestOfLooksAtEndsAlone(t *testing.T) {
	// A function that is far from right has a shape all the same.
	f := function(fork(2, 1), jump(2), ret())
	f.Params, f.Ret = []int{-1, 7, math.MaxInt}, math.MinInt
	f.Blocks[0].Ops = []api.Op{{Kind: 99, Bits: -3, Dst: 5000, Args: []int{-1}}}
	f.Blocks[0].Phis = []api.Phi{{From: []int{77}, Dst: -4}}
	f.Blocks[0].End.Arg, f.Blocks[1].End.Arg, f.Blocks[2].End.Arg = -9, math.MaxInt, 0
	checkOf(t, f, api.Graph{Succ: [][]int{{1, 2}, {2}, {}}, Pred: [][]int{{}, {0}, {0, 1}}})
}

func TestOfHowManyBlocks(t *testing.T) {
	checkNoShape(t, api.Func{})
	checkNoShape(t, api.Func{Params: []int{8}, Ret: 8, Blocks: []api.Block{}})
	for _, n := range []int{1, 2, api.MaxBlocks - 1, api.MaxBlocks, api.MaxBlocks + 1, 1000} {
		f, m := api.Func{Blocks: make([]api.Block, n)}, noEdges(n)
		for i := range n - 1 {
			f.Blocks[i].End = jump(i + 1)
			m[i][i+1] = true
		}
		if n > api.MaxBlocks {
			checkNoShape(t, f)
			continue
		}
		checkOf(t, f, m.lists())
	}
}

func TestOfKindsOfEnds(t *testing.T) {
	want := map[int]int{api.Ret: 0, api.Jump: 1, api.If: 2, api.Trap: 0}
	kinds := []int{math.MinInt, -256, -2, -1, api.Ret, api.Jump, api.If, api.Trap, 4, 5, 256, 257, 1 << 32, 1<<32 + 1, math.MaxInt}
	for _, kind := range kinds {
		for ways := range 5 {
			e := api.End{Kind: kind, To: []int{1, 2, 1, 2}[:ways]}
			n, is := want[kind]
			for at := range 3 {
				f := function(ret(), ret(), ret())
				f.Blocks[at].End = e
				if !is || n != ways {
					checkNoShape(t, f)
				} else if _, c := graph.Of(f); c != api.OK {
					t.Errorf("P6.1: kind %d with %d ways on: %v", kind, ways, c)
				}
			}
		}
	}
	checkNoShape(t, function(api.End{Kind: api.If, To: make([]int, 100000)}, ret()))
}

func TestOfWaysToNoBlock(t *testing.T) {
	for n := 1; n <= api.MaxBlocks; n++ {
		// Nothing goes on at block 0, from wherever.
		for _, to := range append([]int{0, n, n + 1}, notPlaces...) {
			for _, at := range []int{0, n / 2, n - 1} {
				f := api.Func{Blocks: make([]api.Block, n)}
				for _, e := range []api.End{jump(to), fork(to, to), fork(to, n-1), fork(n-1, to)} {
					f.Blocks[at].End = e
					checkNoShape(t, f)
				}
			}
		}
	}
}

// May and Make

func TestMakeOfEveryGraph(t *testing.T) {
	for n := 1; n <= 3; n++ {
		everyGraph(n, func(m edges) { checkMake(t, m) })
	}
	r := rand.New(rand.NewSource(62))
	for i := range 1500 {
		checkMake(t, anyEdges(r, 1+i%api.MaxBlocks))
	}
}

func checkMake(t *testing.T, m edges) {
	t.Helper()
	want := m.lists()
	if g, e := graph.Make(want.Succ); e != api.OK || !same(g, want) {
		t.Errorf("P6.1: Make(%v): %v %v, not %v", want.Succ, g, e, want)
	}
	if !graph.May(want) {
		t.Errorf("P6.1: May(%v): false", want)
	}
	turned := api.Graph{Succ: want.Pred, Pred: want.Succ}
	if g := graph.Turned(want); !same(g, turned) || !graph.May(turned) {
		t.Errorf("P6.1: Turned(%v): %v", want, g)
	}
}

func TestHowManyBlocks(t *testing.T) {
	for n := range 200 {
		full := noEdges(n)
		for i := range n * n {
			full[i/n][i%n] = true
		}
		for _, g := range []api.Graph{noEdges(n).lists(), full.lists()} {
			if 1 <= n && n <= api.MaxBlocks {
				checkMake(t, full)
				checkMake(t, noEdges(n))
				continue
			}
			checkNone(t, g)
		}
	}
	checkNone(t, api.Graph{})
	checkNone(t, api.Graph{Succ: [][]int{}, Pred: [][]int{}})
}

// checkNone checks that there is no such graph, nor one with its ways on.
func checkNone(t *testing.T, g api.Graph) {
	t.Helper()
	checkMayNot(t, g)
	if h, e := graph.Make(g.Succ); e != api.Shape || !isNothing(h) {
		t.Errorf("P6.1: Make(%v): %v %v, not Shape alone", g.Succ, h, e)
	}
}

func checkMayNot(t *testing.T, g api.Graph) {
	t.Helper()
	if graph.May(g) {
		t.Errorf("P6.1: May(%v): true", g)
	}
	if h := graph.Turned(g); !isNothing(h) {
		t.Errorf("P6.1: Turned(%v), which may not be: %v", g, h)
	}
	for root := range len(g.Succ) + 1 {
		if l := graph.Order(g, root); len(l) != 0 {
			t.Errorf("P6.2: Order(%v, %d), of what may not be: %v", g, root, l)
		}
	}
}

func TestNoNilListsAreAskedFor(t *testing.T) {
	for _, g := range []api.Graph{
		{Succ: [][]int{nil, {0}}, Pred: [][]int{{1}, {}}},
		{Succ: [][]int{{}, {0}}, Pred: [][]int{{1}, nil}},
	} {
		h, e := graph.Make(g.Succ)
		if !graph.May(g) || e != api.OK || !same(g, h) {
			t.Errorf("P6.1: %v: %v %v", g, h, e)
		}
	}
}

func TestListsThatDoNotRise(t *testing.T) {
	for _, list := range [][]int{{1, 0}, {0, 0}, {1, 1}, {0, 1, 1}, {0, 2, 1}, {2, 0}, {2, 1, 0}, {0, 0, 1}, {0, 1, 2, 2}, {1, 2, 0}} {
		for at := range 3 {
			g := api.Graph{Succ: make([][]int, 3), Pred: make([][]int, 3)}
			g.Succ[at] = list
			for _, to := range list {
				g.Pred[to] = append(g.Pred[to], at)
			}
			checkNone(t, g)
			// Its other half alone not rising is no better.
			checkMayNot(t, api.Graph{Succ: g.Pred, Pred: g.Succ})
			h, _ := graph.Make([][]int{{0, 1, 2}, {0, 1, 2}, {0, 1, 2}})
			h.Pred[at] = list
			checkMayNot(t, h)
		}
	}
}

func TestListsOfNoPlaces(t *testing.T) {
	for n := 1; n <= api.MaxBlocks; n++ {
		for _, to := range append([]int{n, n + 1}, notPlaces...) {
			for _, at := range []int{0, n - 1} {
				g := noEdges(n).lists()
				g.Succ[at] = []int{to}
				checkNone(t, g)
				g.Succ[at] = []int{min(to, 0), max(to, 0)}
				checkNone(t, g)
				checkMayNot(t, api.Graph{Succ: g.Pred, Pred: g.Succ})
			}
		}
	}
}

func TestPredIsWhatSuccSays(t *testing.T) {
	r := rand.New(rand.NewSource(63))
	for i := range 300 {
		n := 1 + i%9
		g := anyEdges(r, n).lists()
		for at := range n {
			for from := range n {
				h := copyGraph(g)
				if k, is := slices.BinarySearch(h.Pred[at], from); is {
					h.Pred[at] = slices.Delete(h.Pred[at], k, k+1)
				} else {
					h.Pred[at] = slices.Insert(h.Pred[at], k, from)
				}
				checkMayNot(t, h)
				// Its Succ alone are those of a graph.
				if m, e := graph.Make(h.Succ); e != api.OK || !same(m, g) {
					t.Errorf("P6.1: Make(%v): %v %v", h.Succ, m, e)
				}
			}
		}
	}
}

func TestAsManyPredAsSucc(t *testing.T) {
	g := api.Graph{Succ: [][]int{{1}, {}, {}}, Pred: [][]int{{}, {0}, {}}}
	for _, pred := range [][][]int{nil, {}, g.Pred[:1], g.Pred[:2], {{}, {0}, {}, {}}} {
		checkMayNot(t, api.Graph{Succ: g.Succ, Pred: pred})
		checkMayNot(t, api.Graph{Succ: pred, Pred: g.Succ})
	}
	checkMayNot(t, api.Graph{Succ: [][]int{{}}})
	checkMayNot(t, api.Graph{Pred: [][]int{{}}})
	checkMayNot(t, api.Graph{Succ: [][]int{{0}}})
	checkMayNot(t, api.Graph{Pred: [][]int{{0}}})
}

func TestTurnedTwiceIsTheSame(t *testing.T) {
	r := rand.New(rand.NewSource(64))
	for i := range 500 {
		f, _ := anyFunction(r, 1+i%api.MaxBlocks)
		g, _ := graph.Of(f)
		if !graph.May(g) || !same(graph.Turned(graph.Turned(g)), g) {
			t.Errorf("P6.1: turned twice: %v", g)
		}
	}
}

// Rule 3

// spared gives the same lists with spare room behind each, and that room.
func spared(lists [][]int) (out, room [][]int) {
	for _, l := range lists {
		all := append(slices.Clone(l), 5, 1, 7)
		out, room = append(out, all[:len(l)]), append(room, all)
	}
	return out, room
}

func TestNothingHandedInIsChanged(t *testing.T) {
	succ, room := spared([][]int{{1, 2}, {3}, {3}, {}})
	pred, roomToo := spared([][]int{{}, {0}, {0}, {1, 2}})
	was, wasToo := copyLists(room), copyLists(roomToo)
	g := api.Graph{Succ: succ, Pred: pred}
	graph.May(g)
	graph.Make(succ)
	graph.Turned(g)
	graph.Order(g, 0)
	if !sameLists(room, was) || !sameLists(roomToo, wasToo) {
		t.Error("P6.1, P6.2: a graph that was handed in was changed")
	}
	to, roomTo := spared([][]int{{2, 1}, {2, 2}})
	was = copyLists(roomTo)
	f := function(fork(1, 1), fork(1, 1), ret())
	f.Blocks[0].End.To, f.Blocks[1].End.To = to[0], to[1]
	graph.Of(f)
	if !sameLists(roomTo, was) {
		t.Error("P6.1: a function that was handed in was changed")
	}
}

// overwritten writes over all lists of an answer, each to the end of its room,
// and tells whether each held its own numbers still.
func overwritten(lists ...[]int) bool {
	for i, l := range lists {
		for k := range l[:cap(l)] {
			l[:cap(l)][k] = 1000 + i
		}
	}
	for i, l := range lists {
		for _, v := range l {
			if v != 1000+i {
				return false
			}
		}
	}
	return true
}

func TestNoListsOfAnAnswerAreShared(t *testing.T) {
	f := function(fork(2, 1), jump(2), fork(1, 3), trap())
	g, _ := graph.Of(f)
	was := copyGraph(g)
	made, _ := graph.Make(g.Succ)
	turned := graph.Turned(g)
	order := graph.Order(g, 0)
	for _, h := range []api.Graph{made, turned} {
		if !overwritten(slices.Concat(h.Succ, h.Pred)...) {
			t.Error("P6.1: lists of one graph are one")
		}
	}
	clear(order)
	if !same(g, was) {
		t.Error("P6.1, P6.2: an answer hangs on what was handed in")
	}
	if !overwritten(slices.Concat(g.Succ, g.Pred)...) {
		t.Error("P6.1: lists of one graph are one")
	}
	checkOf(t, f, was)
}

func TestNothingHandedInIsKept(t *testing.T) {
	f := function(fork(2, 1), jump(2), ret())
	g, _ := graph.Of(f)
	was := copyGraph(g)
	f.Blocks[0].End.To[0], f.Blocks[1].End.To[0] = 1, 1
	made, _ := graph.Make(g.Succ)
	turned := graph.Turned(g)
	if !same(g, was) {
		t.Error("P6.1: a graph hangs on its function")
	}
	overwritten(slices.Concat(g.Succ, g.Pred)...)
	if !same(made, was) || !same(turned, api.Graph{Succ: was.Pred, Pred: was.Succ}) {
		t.Error("P6.1: a graph hangs on what it was made of")
	}
}
