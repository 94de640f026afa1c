package hammock_test

import (
	"math/rand"
	"slices"
	"testing"

	"lockstep/api"
	"lockstep/check"
	"lockstep/graph"
	"lockstep/hammock"
	"lockstep/pdom"
)

// comers tells who goes on at a block.
func comers(f api.Func, at int) []int {
	var list []int
	for from, k := range f.Blocks {
		if slices.Contains(k.End.To, at) {
			list = append(list, from)
		}
	}
	return list
}

// isSide tells, by the chapter's words, whether a way on is a side towards the
// join, by that block between (-1: by none).
func isSide(f api.Func, at, way, between, join int) bool {
	if between == -1 {
		return way == join
	}
	k := f.Blocks[way]
	return way == between && slices.Equal(comers(f, way), []int{at}) && len(k.Phis) == 0 && k.End.Kind == api.Jump && k.End.To[0] == join
}

// isOne tells, by the chapter's words, whether it is a hammock of a function
// that is right; At is a block's place.
func isOne(f api.Func, h api.Hammock) bool {
	e := f.Blocks[h.At].End
	return e.Kind == api.If && e.To[0] != e.To[1] && h.Join != h.At && (h.Then != -1 || h.Else != -1) &&
		isSide(f, h.At, e.To[0], h.Then, h.Join) && isSide(f, h.At, e.To[1], h.Else, h.Join)
}

// hammocks tells anew all hammocks of a function: of whatever places.
func hammocks(f api.Func) []api.Hammock {
	var list []api.Hammock
	if check.Check(f, api.Lanes) != api.OK {
		return nil
	}
	for at, k := range f.Blocks {
		if k.End.Kind != api.If {
			continue
		}
		for _, then := range []int{-1, k.End.To[0]} {
			for _, other := range []int{-1, k.End.To[1]} {
				for join := range f.Blocks {
					if h := (api.Hammock{At: at, Then: then, Else: other, Join: join}); isOne(f, h) {
						list = append(list, h)
					}
				}
			}
		}
	}
	return list
}

// betweenAll gives the operations of a hammock's blocks between.
func betweenAll(f api.Func, h api.Hammock) []api.Op {
	var ops []api.Op
	for at, k := range f.Blocks {
		if at == h.Then || at == h.Else {
			ops = slices.Concat(ops, k.Ops)
		}
	}
	return ops
}

// checkAll checks all that is told of a function, and gives how many hammocks
// it has.
func checkAll(t *testing.T, f api.Func) int {
	t.Helper()
	want := hammocks(f)
	if l := hammock.All(f); !slices.Equal(l, want) {
		t.Errorf("P14.1: All(%v): %v, not %v", f.Blocks, l, want)
	}
	for _, h := range want {
		ops, merges := betweenAll(f, h), true
		for _, o := range ops {
			merges = merges && o.Lanes == 1
		}
		if !hammock.Is(f, h) || hammock.Cost(f, h) != len(ops) || hammock.Merges(f, h) != merges {
			t.Errorf("P14.1: %v of %v: %v %v %v", h, f.Blocks, hammock.Is(f, h), hammock.Cost(f, h), hammock.Merges(f, h))
		}
		checkWhatFollows(t, f, h)
	}
	for at := range f.Blocks {
		checkFind(t, f, at, want)
	}
	return len(want)
}

// checkWhatFollows checks P14.2: without the join no way leads from At's ways on
// to others than those between; and the join is the first that all ways out from
// At go through, if from each block one leads out.
func checkWhatFollows(t *testing.T, f api.Func, h api.Hammock) {
	t.Helper()
	g, _ := graph.Of(f)
	seen := map[int]bool{h.Join: true}
	var look func(at int)
	look = func(at int) {
		if seen[at] {
			return
		}
		seen[at] = true
		if at != h.Then && at != h.Else {
			t.Errorf("P14.2: %d is between, in %v of %v", at, h, f.Blocks)
		}
		for _, to := range g.Succ[at] {
			look(to)
		}
	}
	for _, to := range g.Succ[h.At] {
		look(to)
	}
	tree := pdom.Tree(g)
	if len(pdom.Shut(g)) > 0 || len(tree) == 0 {
		return
	}
	if tree[h.At] != h.Join || !pdom.Over(tree, h.Join, h.At) {
		t.Errorf("P14.2: the join doesn't postdominate At, in %v of %v", h, f.Blocks)
	}
}

// everyFunction calls with each function of so many blocks that have nothing but
// an end; a Trap is as good as a Ret.
func everyFunction(n int, do func(f api.Func)) {
	f := api.Func{Params: []int{1, 8, 64}, Ret: 8, Blocks: make([]api.Block, n)}
	var put func(at int)
	put = func(at int) {
		if at == n {
			do(f)
			return
		}
		f.Blocks[at].End = api.End{Kind: api.Ret, Arg: 2}
		put(at + 1)
		for a := 1; a < n; a++ {
			f.Blocks[at].End = api.End{Kind: api.Jump, To: []int{a}}
			put(at + 1)
			for b := 1; b < n; b++ {
				f.Blocks[at].End = api.End{Kind: api.If, Arg: 1, To: []int{a, b}}
				put(at + 1)
			}
		}
	}
	put(0)
}

func TestEveryFunction(t *testing.T) {
	for n := 1; n <= 4; n++ {
		count := 0
		everyFunction(n, func(f api.Func) { count += checkAll(t, f) })
		if n > 2 != (count > 0) {
			t.Errorf("of %d blocks: %d hammocks", n, count)
		}
	}
}

func TestIsOfAllPlaces(t *testing.T) {
	places := []int{-2, -1, 0, 1, 2, 3}
	everyFunction(3, func(f api.Func) {
		want := hammocks(f)
		if len(want) == 0 {
			return
		}
		for i := range len(places) * len(places) {
			for k := range len(places) * len(places) {
				h := api.Hammock{At: places[i/len(places)], Then: places[i%len(places)], Else: places[k/len(places)], Join: places[k%len(places)]}
				if !slices.Contains(want, h) {
					checkNone(t, f, h)
				}
			}
		}
	})
}

// Functions by chance

// maker makes functions by chance of parts that part and meet, one behind the
// other, and round.
type maker struct {
	r *rand.Rand
	f api.Func
	v int // the last value
}

func (m *maker) made(n int) api.Func {
	m.f = api.Func{Params: []int{1, 8, 64}, Ret: 8, Blocks: make([]api.Block, n)}
	m.v = 3
	order := m.order(n)
	for i := 0; i < n; {
		i += m.part(order[i:], order)
	}
	for at := range n {
		if m.r.Intn(3*n) == 0 {
			m.f.Blocks[at].End = m.anyEnd()
		}
	}
	for at := range n {
		m.fill(at)
	}
	return m.f
}

// order gives all places, at most times in any order, but 0 is always the first.
func (m *maker) order(n int) []int {
	order := make([]int, n)
	for i := range order {
		order[i] = i
	}
	if m.r.Intn(3) > 0 {
		m.r.Shuffle(n-1, func(a, b int) { order[a+1], order[b+1] = order[b+1], order[a+1] })
	}
	return order
}

// part ends the first of the rest, and those that lie between it and the next
// one, and tells how many these are.
func (m *maker) part(rest, all []int) int {
	size := min([]int{1, 2, 2, 3, 3, 3}[m.r.Intn(6)], len(rest)-1)
	if size <= 0 {
		m.f.Blocks[rest[0]].End = api.End{Kind: api.Ret, Arg: 2}
		return 1
	}
	next, back := rest[size], all[max(len(all)-len(rest)-m.r.Intn(5), 0)]
	ways := [][]int{1: {next, back}, 2: {rest[1], next}, 3: {rest[1], rest[min(2, size)]}}[size]
	if m.r.Intn(2) == 0 {
		slices.Reverse(ways)
	}
	m.f.Blocks[rest[0]].End = api.End{Kind: api.If, Arg: 1, To: ways}
	if back == 0 && size == 1 || size == 1 && m.r.Intn(2) == 0 {
		m.f.Blocks[rest[0]].End = api.End{Kind: api.Jump, To: []int{next}}
	}
	for _, at := range rest[1:size] {
		m.f.Blocks[at].End = api.End{Kind: api.Jump, To: []int{next}}
	}
	return size
}

func (m *maker) anyEnd() api.End {
	n := len(m.f.Blocks)
	if n == 1 || m.r.Intn(4) == 0 {
		return api.End{Kind: api.Trap}
	}
	to := []int{1 + m.r.Intn(n-1), 1 + m.r.Intn(n-1)}
	if m.r.Intn(2) == 0 {
		return api.End{Kind: api.Jump, To: to[:1]}
	}
	return api.End{Kind: api.If, Arg: 1, To: to}
}

// fill gives a block phis, seldom where only one comes, and operations, seldom
// of many lanes.
func (m *maker) fill(at int) {
	k := &m.f.Blocks[at]
	if from := comers(m.f, at); m.r.Intn(10) == 0 || len(from) > 1 && m.r.Intn(2) == 0 {
		k.Phis = append(k.Phis, api.Phi{Bits: 8, Dst: m.fresh(), From: from, Args: slices.Repeat([]int{2}, len(from))})
	}
	for range m.r.Intn(4) {
		k.Ops = append(k.Ops, m.op())
	}
}

func (m *maker) op() api.Op {
	lanes := 1
	if m.r.Intn(9) == 0 {
		lanes = 2 << m.r.Intn(3)
	}
	switch m.r.Intn(5) {
	case 0:
		return api.Op{Kind: api.Store, Bits: 8, Lanes: 1, Args: []int{3, 2}}
	case 1:
		return api.Op{Kind: api.Pdiv, Bits: 8, Lanes: 1, Dst: m.fresh(), Args: []int{1, 2, 2, 2}}
	case 2:
		return api.Op{Kind: api.Load, Bits: 8, Lanes: lanes, Dst: m.fresh(), Args: []int{3}}
	case 3:
		return api.Op{Kind: api.Xor, Bits: 8, Lanes: 1, Dst: m.fresh(), Args: []int{2, 2}}
	}
	return api.Op{Kind: api.Const, Bits: 8, Lanes: lanes, Dst: m.fresh(), Imm: 7}
}

func (m *maker) fresh() int {
	m.v++
	return m.v
}

func TestByChance(t *testing.T) {
	m := &maker{r: rand.New(rand.NewSource(141))}
	right, count := 0, 0
	for i := range 1500 {
		n := 1 + i%20
		if i%20 == 0 {
			n = 1 + i/20%api.MaxBlocks
		}
		f := m.made(n)
		count += checkAll(t, f)
		if check.Check(f, api.Lanes) == api.OK {
			right++
		}
	}
	if right < 750 || count < 1500 {
		t.Errorf("too few by chance: %d right, %d hammocks", right, count)
	}
}

// TestNoTwoJoins shows that of a block no two joins do, so that the one with
// blocks on both sides is never chosen out of two.
func TestNoTwoJoins(t *testing.T) {
	look := func(f api.Func) {
		seen := map[int]int{}
		for _, h := range hammocks(f) {
			if seen[h.At]++; seen[h.At] > 1 {
				t.Errorf("P14.1: two of one block: %v", f.Blocks)
			}
		}
	}
	everyFunction(4, look)
	m := &maker{r: rand.New(rand.NewSource(142))}
	for i := range 2000 {
		look(m.made(1 + i%12))
	}
}
