package sched_test

import (
	"math/rand"
	"slices"
	"testing"

	"lockstep/api"
	"lockstep/check"
	"lockstep/sched"
)

// tally counts what came up.
type tally struct{ legal, moved, illegal, twice, bound, free, deep, lifted int }

func (n tally) isEnough(least int) bool {
	return min(n.legal, n.moved, n.illegal, n.twice, n.bound, n.free, n.deep, n.lifted) >= least
}

// checkRetold checks all that is told of a block of a function that is right.
func (m *maker) checkRetold(t *testing.T, f api.Func, block int, n *tally) {
	t.Helper()
	x := tied(f, block)
	var want [][]int
	for at := range x {
		if want = append(want, x.of(at)); len(want[at]) > 0 {
			n.bound++
		} else {
			n.free++
		}
	}
	checkHangs(t, f, block, want...)
	depths := x.depths()
	checkDepth(t, f, block, depths...)
	if slices.Max(append(depths, 0)) > 2 {
		n.deep++
	}
	flat := x.flat(f.Blocks[block].Ops)
	checkFlat(t, f, block, flat...)
	if !slices.Equal(flat, places(len(x))) {
		n.lifted++
	}
	for range 6 {
		m.checkOrder(t, f, block, x, m.r.Intn(3) > 0, n)
	}
}

// checkOrder checks what is told of an order by chance: a legal one, if that is
// asked for, or one in which something may be wrong.
func (m *maker) checkOrder(t *testing.T, f api.Func, block int, x ties, legal bool, n *tally) {
	t.Helper()
	order := m.legalOrder(f, block)
	if !legal && len(order) > 0 {
		i, k := m.r.Intn(len(order)), m.r.Intn(len(order))
		if order[i], order[k] = order[k], order[i]; m.r.Intn(6) == 0 {
			order[i] = order[k]
		}
	}
	is := x.allows(order)
	checkLegal(t, f, block, order, is)
	switch {
	case !is && len(slices.Compact(slices.Sorted(slices.Values(order)))) < len(order):
		n.twice++
	case !is:
		n.illegal++
	case slices.IsSorted(order):
		n.legal++
	default:
		n.moved++
	}
}

// legalOrder gives a legal order of a block, by chance.
func (m *maker) legalOrder(f api.Func, block int) []int {
	return tied(f, block).chosen(func(free []int) int { return free[m.r.Intn(len(free))] })
}

// P19.1, P19.2

func TestFunctionsByChance(t *testing.T) {
	m := &maker{r: rand.New(rand.NewSource(190)), size: 24}
	var n tally
	kinds := map[int]int{}
	for i := range 500 {
		f := m.made(1+i%6, 2+i%9)
		if e := check.Check(f, api.Lanes); e != api.OK {
			t.Fatalf("%v isn't right: %v", printed(f), e)
		}
		for block, k := range f.Blocks {
			m.checkRetold(t, f, block, &n)
			for _, o := range k.Ops {
				kinds[o.Kind]++
			}
		}
	}
	if !n.isEnough(100) || len(kinds) != api.Get+1 {
		t.Errorf("P19.1: too few of a kind: %+v %v", n, kinds)
	}
}

// All orders of small blocks.
func TestAllOrders(t *testing.T) {
	m := &maker{r: rand.New(rand.NewSource(191)), size: 24}
	sizes := map[int]int{}
	legal, illegal := 0, 0
	for range 300 {
		f := m.made(1, 5)
		n := len(f.Blocks[0].Ops)
		if n > 6 || sizes[n] == 25 {
			continue
		}
		sizes[n]++
		x := tied(f, 0)
		for _, order := range allOrders(n) {
			is := x.allows(order)
			if checkLegal(t, f, 0, order, is); is {
				legal++
			} else {
				illegal++
			}
		}
	}
	if len(sizes) != 7 || sizes[5] < 15 || legal < 1000 || illegal < 5000 {
		t.Errorf("P19.1: too few of a kind: %v %d %d", sizes, legal, illegal)
	}
}

func TestGreatOnesByChance(t *testing.T) {
	m := &maker{r: rand.New(rand.NewSource(192)), size: 24}
	count := 0
	var n tally
	for i := range 60 {
		f := m.made(1+i%3, 300/(1+i%3))
		if check.Check(f, api.Lanes) != api.OK {
			continue
		}
		count++
		block := m.r.Intn(len(f.Blocks))
		x := tied(f, block)
		checkDepth(t, f, block, x.depths()...)
		checkFlat(t, f, block, x.flat(f.Blocks[block].Ops)...)
		m.checkOrder(t, f, block, x, true, &n)
	}
	if count < 40 || n.moved < 30 {
		t.Errorf("P19.1: too few: %d %+v", count, n)
	}
}

// Of what isn't right nothing is told, and nothing panics.
func TestChangedByChance(t *testing.T) {
	m := &maker{r: rand.New(rand.NewSource(193)), size: 24}
	right, wrong := 0, 0
	var n tally
	for i := range 1500 {
		f := spared(m.made(1+i%5, 5))
		all := numbers(&f)
		one, other := all[m.r.Intn(len(all))], all[m.r.Intn(len(all))]
		if *one = *other; m.r.Intn(8) == 0 {
			*one = []int{-1, 0, 1, 2, 1024, 1 << 62}[m.r.Intn(6)]
		}
		if m.r.Intn(8) == 0 {
			list := lists(&f)
			l := list[m.r.Intn(len(list))]
			*l = (*l)[:m.r.Intn(len(*l)+1)]
		}
		if check.Check(f, api.Lanes) == api.OK {
			right++
			m.checkRetold(t, f, m.r.Intn(len(f.Blocks)), &n)
			continue
		}
		wrong++
		for block, k := range f.Blocks {
			checkNothing(t, f, block)
			checkLegal(t, f, block, places(len(k.Ops)), false)
			checkLegal(t, f, block, sched.Flat(f, block), false)
		}
	}
	if right < 150 || wrong < 600 {
		t.Errorf("P19.1: too few of a kind: %v %v", right, wrong)
	}
}
