package sched_test

import (
	"slices"
	"strings"
	"testing"

	"lockstep/api"
	"lockstep/code"
	"lockstep/sched"
)

// places gives those from 0 to n - 1.
func places(n int) []int {
	list := make([]int, n)
	for i := range list {
		list[i] = i
	}
	return list
}

// allOrders gives each order of n places.
func allOrders(n int) [][]int {
	if n == 0 {
		return [][]int{nil}
	}
	var all [][]int
	for _, order := range allOrders(n - 1) {
		for i := range n {
			all = append(all, slices.Insert(slices.Clone(order), i, n-1))
		}
	}
	return all
}

// checkLegal checks whether an order is legal, and that just what is legal is put.
func checkLegal(t *testing.T, f api.Func, block int, order []int, is bool) {
	t.Helper()
	if legal := sched.Legal(f, block, order); legal != is {
		t.Errorf("P19.1: Legal(%v, %d, %v): %v", printed(f), block, order, legal)
	}
	g, e := sched.Put(f, block, order)
	if !is {
		if e != api.None || len(g.Params) > 0 || g.Ret != 0 || len(g.Blocks) > 0 {
			t.Errorf("P19.2: Put(%v, %d, %v): %v %v", printed(f), block, order, e, g)
		}
		return
	}
	if want := reordered(f, block, order); e != api.OK || !code.Same(g, want) {
		t.Errorf("P19.2: Put(%v, %d, %v): %v %v\nnot %v", printed(f), block, order, e, printed(g), printed(want))
	}
}

// reordered gives a function anew, with a block's operations in an order.
func reordered(f api.Func, block int, order []int) api.Func {
	g := spared(f)
	for i, at := range order {
		g.Blocks[block].Ops[i] = f.Blocks[block].Ops[at]
	}
	return g
}

// checkJust checks that of all orders of a block just these are legal.
func checkJust(t *testing.T, f api.Func, block int, want ...[]int) {
	t.Helper()
	for _, order := range allOrders(len(f.Blocks[block].Ops)) {
		is := slices.ContainsFunc(want, func(w []int) bool { return slices.Equal(w, order) })
		checkLegal(t, f, block, order, is)
	}
}

// checkFlat checks the flat order, that it is legal, and that it is flat when put.
func checkFlat(t *testing.T, f api.Func, block int, want ...int) {
	t.Helper()
	order := sched.Flat(f, block)
	if !slices.Equal(order, want) {
		t.Errorf("P19.2: Flat(%v, %d): %v, not %v", printed(f), block, order, want)
	}
	checkLegal(t, f, block, order, true)
	g, _ := sched.Put(f, block, order)
	if again := sched.Flat(g, block); !slices.Equal(again, places(len(want))) {
		t.Errorf("P19.2: Flat(%v, %d): %v", printed(g), block, again)
	}
}

// P19.1

func TestExample(t *testing.T) {
	f := one(t, "const 8 1 9 () 1 const 8 1 10 () 2 add 8 1 11 (9 10) 0")
	checkJust(t, f, 0, []int{0, 1, 2}, []int{1, 0, 2})
	checkFlat(t, f, 0, 0, 1, 2)
}

func TestLegalOrders(t *testing.T) {
	// One behind the other.
	checkJust(t, one(t, "add 8 1 9 (2 2) 0 add 8 1 10 (9 2) 0 add 8 1 11 (2 10) 0 add 8 1 12 (11 11) 0"), 0, []int{0, 1, 2, 3})
	// None hangs on another.
	checkJust(t, one(t, "add 8 1 9 (2 2) 0 load 8 1 10 (3) 0 eq 8 1 11 (2 2) 0"), 0, allOrders(3)...)
	// Two that use a sum each, of the same: what both use comes first, and they
	// stay as they are, but not the sums.
	f := one(t, "const 64 1 9 () 8 add 64 1 10 (3 9) 0 load 8 1 11 (10) 0 sub 64 1 12 (3 9) 0 load 8 1 13 (12) 0")
	checkJust(t, f, 0, []int{0, 1, 2, 3, 4}, []int{0, 1, 3, 2, 4}, []int{0, 3, 1, 2, 4})
	// Just the block's own order is asked.
	f = fn(t, "block add 8 1 9 (2 2) 0 sub 8 1 10 (2 2) 0 jump 0 (1) block add 8 1 11 (10 9) 0 sub 8 1 12 (9 11) 0 ret 9 ()")
	checkJust(t, f, 0, []int{0, 1}, []int{1, 0})
	checkJust(t, f, 1, []int{0, 1})
	// No operations have an order, too.
	checkJust(t, fn(t, "block ret 2 ()"), 0, nil)
	checkJust(t, fn(t, "block ret 2 ()"), 0, []int{})
}

// Of what isn't pure each pair stays, whether alike or not.
func TestPairsThatAreNotPure(t *testing.T) {
	impure := []string{"div 8 1 9 (2 2) 0", "load 8 1 9 (3) 0", "store 8 1 0 (3 2) 0", "pload 8 1 9 (1 3 2) 0", "pstore 8 1 0 (1 3 2) 0", "pdiv 8 1 9 (1 2 2 2) 0"}
	for _, first := range impure {
		checkJust(t, one(t, first+" const 8 1 10 () 5"), 0, []int{0, 1}, []int{1, 0})
		checkJust(t, one(t, "const 8 1 10 () 5 "+first), 0, []int{0, 1}, []int{1, 0})
		for _, second := range impure {
			second = strings.Replace(second, " 9 ", " 10 ", 1)
			checkJust(t, one(t, first+" "+second), 0, []int{0, 1})
			checkJust(t, one(t, first+" const 8 1 11 () 5 "+second), 0, []int{0, 1, 2}, []int{1, 0, 2}, []int{0, 2, 1})
		}
	}
}

// What isn't each place once is no order.
func TestNoOrders(t *testing.T) {
	f := one(t, "const 8 1 9 () 1 add 8 1 10 (9 2) 0 const 8 1 11 () 3")
	checkJust(t, f, 0, []int{0, 1, 2}, []int{0, 2, 1}, []int{2, 0, 1})
	for _, order := range [][]int{nil, {0}, {0, 1}, {0, 1, 2, 3}, {0, 1, 2, 2}, {0, 1, 2, -1}, {0, 0, 1, 2}, {0, 0, 1}, {0, 1, 1}, {0, 0, 0}, {2, 0, 2}, {0, 1, 3}, {1, 2, 3}, {3, 0, 1}} {
		checkLegal(t, f, 0, order, false)
	}
	for _, n := range far {
		for at := range 3 {
			order := []int{2, 0, 1}
			order[at] = n
			checkLegal(t, f, 0, order, false)
			checkLegal(t, f, 0, slices.Insert([]int{2, 0, 1}, at, n), false)
		}
		checkLegal(t, f, n, []int{0, 1, 2}, false)
	}
	f = fn(t, "block ret 2 ()")
	checkLegal(t, f, 0, nil, true)
	checkLegal(t, f, 0, []int{0}, false)
	checkLegal(t, f, 1, nil, false)
	checkLegal(t, f, -1, nil, false)
	checkLegal(t, f, 0, make([]int, 1<<16), false)
}

// P19.2

func TestPut(t *testing.T) {
	f := fn(t, "block const 8 1 9 () 1 store 8 1 0 (3 9) 0 const 8 1 10 () 2 jump 0 (1) block phi 8 11 (0) (9) add 8 1 12 (10 11) 0 load 8 1 13 (3) 0 ret 12 ()")
	g, e := sched.Put(f, 0, []int{2, 0, 1})
	want := fn(t, "block const 8 1 10 () 2 const 8 1 9 () 1 store 8 1 0 (3 9) 0 jump 0 (1) block phi 8 11 (0) (9) add 8 1 12 (10 11) 0 load 8 1 13 (3) 0 ret 12 ()")
	if e != api.OK || !code.Same(g, want) {
		t.Errorf("P19.2: %v %v", e, printed(g))
	}
	g, e = sched.Put(g, 1, []int{1, 0})
	want = fn(t, "block const 8 1 10 () 2 const 8 1 9 () 1 store 8 1 0 (3 9) 0 jump 0 (1) block phi 8 11 (0) (9) load 8 1 13 (3) 0 add 8 1 12 (10 11) 0 ret 12 ()")
	if e != api.OK || !code.Same(g, want) {
		t.Errorf("P19.2: %v %v", e, printed(g))
	}
}

func TestFlat(t *testing.T) {
	// Pure ones first, the least place first.
	checkFlat(t, one(t, "load 8 1 9 (3) 0 const 8 1 10 () 1 store 8 1 0 (3 10) 0 const 8 1 11 () 1"), 0, 1, 3, 0, 2)
	// A pure one goes ahead as soon as all on which it hangs stand.
	f := one(t, `load 8 1 9 (3) 0 div 8 1 10 (2 2) 0 add 8 1 11 (9 10) 0 load 8 1 12 (3) 0 add 8 1 13 (9 9) 0 add 8 1 14 (11 12) 0 sub 8 1 15 (2 2) 0 pdiv 8 1 16 (1 2 2 2) 0`)
	checkFlat(t, f, 0, 6, 0, 4, 1, 2, 3, 5, 7)
	// One of a lesser place goes ahead of those that could be put longer since.
	checkFlat(t, one(t, "load 8 1 9 (3) 0 add 8 1 10 (9 9) 0 add 8 1 11 (10 10) 0 add 8 1 12 (9 9) 0"), 0, 0, 1, 2, 3)
	checkFlat(t, one(t, "add 8 1 9 (2 2) 0 load 8 1 10 (3) 0 add 8 1 11 (9 9) 0 add 8 1 12 (2 2) 0"), 0, 0, 2, 3, 1)
	checkFlat(t, one(t, "load 8 1 9 (3) 0 add 8 1 10 (9 9) 0 load 8 1 11 (3) 0 add 8 1 12 (2 2) 0 add 8 1 13 (11 10) 0 add 8 1 14 (13 9) 0"), 0, 3, 0, 1, 2, 4, 5)
	// One that isn't pure waits, too, for what it uses.
	checkFlat(t, one(t, "add 8 1 9 (2 2) 0 load 8 1 10 (3) 0 add 8 1 11 (10 2) 0 div 8 1 12 (11 9) 0"), 0, 0, 1, 2, 3)
	// What isn't pure stays as it is among itself, all of it behind what's free.
	checkFlat(t, one(t, `pstore 8 1 0 (1 3 2) 0 store 8 1 0 (3 2) 0 pload 8 1 9 (1 3 2) 0 pdiv 8 1 10 (1 2 2 2) 0 div 8 1 11 (2 2) 0 load 8 1 12 (3) 0 pack 8 2 13 (2 2) 0 get 8 2 14 (13) 1`), 0,
		6, 7, 0, 1, 2, 3, 4, 5)
	// Nothing but what is pure, or isn't, stays.
	checkFlat(t, one(t, "const 8 1 9 () 1 const 8 1 10 () 2 add 8 1 11 (10 9) 0 const 8 1 12 () 3"), 0, 0, 1, 2, 3)
	checkFlat(t, one(t, "load 8 1 9 (3) 0 store 8 1 0 (3 9) 0 div 8 1 10 (2 2) 0"), 0, 0, 1, 2)
	checkFlat(t, fn(t, "block ret 2 ()"), 0)
	// Of one block alone.
	f = fn(t, `block load 8 1 9 (3) 0 const 8 1 10 () 1 jump 0 (1)
		block phi 8 11 (0) (10) store 8 1 0 (3 11) 0 add 8 1 12 (9 10) 0 store 8 1 0 (3 12) 0 add 8 1 13 (11 11) 0 ret 13 ()`)
	checkFlat(t, f, 0, 1, 0)
	checkFlat(t, f, 1, 1, 3, 0, 2)
}
