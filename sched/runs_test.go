package sched_test

import (
	"math/rand"
	"slices"
	"testing"

	"lockstep/api"
	"lockstep/check"
	"lockstep/eval"
	"lockstep/mem"
	"lockstep/sched"
)

// P19.3

// plenty is more fuel than any function here that ends asks for.
const plenty = 100000

// came is how something came out.
type came struct {
	run   api.Run
	bytes []byte
	trace []api.Touch
}

// input is what a function is run with.
type input struct {
	args  []uint64
	bytes []byte
}

// inputs gives some for a function that m made.
func (m *maker) inputs(f api.Func, n int) []input {
	list := make([]input, n)
	for i := range list {
		list[i].bytes = make([]byte, m.size)
		m.r.Read(list[i].bytes)
		for range f.Params {
			list[i].args = append(list[i].args, m.r.Uint64()>>m.r.Intn(64))
		}
	}
	return list
}

func ran(t *testing.T, f api.Func, in input, fuel int) came {
	t.Helper()
	m, _ := mem.New(in.bytes)
	r, e := eval.Run(f, in.args, m, fuel)
	if e != api.OK {
		t.Fatalf("P19.3: %v can't be run: %v", printed(f), e)
	}
	return came{r, m.Bytes(), m.Trace()}
}

// isSame tells whether two came out alike, and, but for a trap, in as many steps.
func (c came) isSame(was came) bool {
	return c.run.Code == was.run.Code && c.run.Value == was.run.Value && (c.run.Steps == was.run.Steps || c.run.Code == api.Trapped) &&
		slices.Equal(c.bytes, was.bytes) && slices.Equal(c.trace, was.trace)
}

// isAhead tells whether a trace is the beginning of another one.
func isAhead(trace, of []api.Touch) bool {
	return len(trace) <= len(of) && slices.Equal(trace, of[:len(trace)])
}

// checkRuns checks P19.3 of a function, and of it with legal orders. It gives how
// the function came out.
func checkRuns(t *testing.T, f, g api.Func, in input) api.Code {
	t.Helper()
	const fuel = 300
	x := ran(t, f, in, fuel)
	if x.run.Code == api.Fuel {
		y := ran(t, g, in, fuel)
		if !isAhead(x.trace, y.trace) && !isAhead(y.trace, x.trace) || y.run.Code == api.OK {
			t.Errorf("P19.3: %v\nof %v comes out as %v, not %v", printed(g), printed(f), y, x)
		}
		if y.run.Code == api.Trapped && !y.isSame(ran(t, f, in, plenty)) {
			t.Errorf("P19.3: %v\nof %v comes out as %v", printed(g), printed(f), y)
		}
		return api.Fuel
	}
	y := ran(t, g, in, plenty)
	if !y.isSame(x) {
		t.Errorf("P19.3: %v\nof %v comes out as %v, not %v", printed(g), printed(f), y, x)
	}
	if x.run.Code == api.OK {
		// As many steps are just enough.
		enough, less := ran(t, g, in, x.run.Steps), ran(t, g, in, x.run.Steps-1)
		if !enough.isSame(x) || less.run.Code != api.Fuel || !isAhead(less.trace, x.trace) {
			t.Errorf("P19.3: %v\nof %v comes out as %v and %v, not %v", printed(g), printed(f), enough, less, x)
		}
	}
	return x.run.Code
}

// put gives a function with a block's operations in a legal order.
func put(t *testing.T, f api.Func, block int, order []int) api.Func {
	t.Helper()
	g, e := sched.Put(f, block, order)
	if e != api.OK {
		t.Fatalf("P19.2: Put(%v, %d, %v): %v", printed(f), block, order, e)
	}
	for level := api.Scalar; level <= api.Lanes; level++ {
		if check.Check(g, level) != check.Check(f, level) {
			t.Fatalf("P19.3: %v\nof %v isn't right at level %d", printed(g), printed(f), level)
		}
	}
	return g
}

// What is behind a trap isn't touched, though what is pure may be done ahead of it.
func TestTraps(t *testing.T) {
	f := one(t, "const 64 1 9 () 8 store 8 1 0 (3 2) 0 load 8 1 10 (9) 0 add 8 1 11 (10 2) 0 const 8 1 12 () 5 store 8 1 0 (3 12) 0")
	g := put(t, f, 0, sched.Flat(f, 0))
	in := input{[]uint64{1, 7, 2, 0}, make([]byte, 8)}
	x, y := ran(t, f, in, plenty), ran(t, g, in, plenty)
	if x.run.Code != api.Trapped || x.run.Steps != 3 || y.run.Code != api.Trapped || y.run.Steps != 4 || !slices.Equal(y.trace, x.trace) || len(y.trace) != 1 {
		t.Errorf("P19.3: %v and %v", x, y)
	}
	checkRuns(t, f, g, in)
}

func TestRunsByChance(t *testing.T) {
	m := &maker{r: rand.New(rand.NewSource(196)), size: 24}
	outs := map[api.Code]int{}
	moved, touched := 0, 0
	for i := range 1500 {
		f := m.made(1+i%8, 2+i%9)
		g, flat := f, f
		for block := range f.Blocks {
			order := m.legalOrder(f, block)
			if g = put(t, g, block, order); !slices.IsSorted(order) {
				moved++
			}
			flat = put(t, flat, block, sched.Flat(flat, block))
		}
		for _, in := range m.inputs(f, 4) {
			outs[checkRuns(t, f, g, in)]++
			outs[checkRuns(t, f, flat, in)]++
			if len(ran(t, f, in, 100).trace) > 8 {
				touched++
			}
		}
	}
	if outs[api.OK] < 2000 || outs[api.Trapped] < 2000 || outs[api.Fuel] < 300 || moved < 2000 || touched < 500 {
		t.Errorf("P19.3: too few of a kind: %v %d %d", outs, moved, touched)
	}
}
