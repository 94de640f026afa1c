package tidy_test

import (
	"maps"
	"math/rand"
	"slices"
	"testing"

	"lockstep/api"
	"lockstep/check"
	"lockstep/code"
	"lockstep/tidy"
)

// input is what a function is run with.
type input struct {
	args  []uint64
	bytes []byte
}

// inputs gives some for a function that m made.
func (m *maker) inputs(f api.Func, n int) []input {
	list := make([]input, n)
	for i := range list {
		list[i].bytes = make([]byte, m.size)
		m.r.Read(list[i].bytes)
		for range f.Params {
			list[i].args = append(list[i].args, m.r.Uint64()>>m.r.Intn(64))
		}
	}
	return list
}

// checkRuns checks P16.2: what was made of f does what f did, in no more steps;
// and where f goes on and on, it does so, too. It gives how f came out.
func checkRuns(t *testing.T, f, g api.Func, in input) api.Code {
	t.Helper()
	const fuel = 300
	x, y := ran(t, f, in.args, in.bytes, fuel), ran(t, g, in.args, in.bytes, fuel)
	if x.run.Code != api.Fuel {
		if !y.isSame(x) {
			t.Errorf("P16.2: %v\nof %v comes out as %v, not %v", printed(g), printed(f), y, x)
		}
		return x.run.Code
	}
	// With the same fuel it comes as far, if not farther.
	if len(y.trace) < len(x.trace) || !slices.Equal(x.trace, y.trace[:len(x.trace)]) {
		t.Errorf("P16.2: %v\nof %v touches %v, not %v", printed(g), printed(f), y.trace, x.trace)
	}
	if y.run.Code != api.Fuel && !y.isSame(ran(t, f, in.args, in.bytes, plenty)) {
		t.Errorf("P16.2: %v\nof %v comes out as %v", printed(g), printed(f), y)
	}
	return api.Fuel
}

// checkMadeAnew checks what is told, and made, of a function that is right
// against what is told, and made, anew. It gives what was made.
func checkMadeAnew(t *testing.T, f api.Func) []api.Func {
	t.Helper()
	if list, want := tidy.Used(f), slices.Sorted(maps.Keys(users(f))); !slices.Equal(list, want) {
		t.Errorf("P16.1: Used(%v): %v, not %v", printed(f), list, want)
	}
	one, dead, all := tidy.One(f), tidy.Dead(f), tidy.All(f)
	for _, x := range []struct {
		name      string
		made, was api.Func
	}{{"One", one, joined(f)}, {"Dead", dead, cleared(f)}, {"All", all, cleared(joined(f))}} {
		if !code.Same(x.made, x.was) {
			t.Errorf("P16.1: %s(%v): %v\nnot %v", x.name, printed(f), printed(x.made), printed(x.was))
		}
		checkNotGreater(t, f, x.made)
	}
	return []api.Func{one, dead, all}
}

func TestByChance(t *testing.T) {
	m := &maker{r: rand.New(rand.NewSource(161)), size: 24}
	outs := map[api.Code]int{}
	gone, left, kinds := map[int]int{}, map[int]int{}, map[int]int{}
	levels := map[int]int{}
	for i := range 3000 {
		f := m.made(1 + i%14)
		levels[m.level]++
		list := checkMadeAnew(t, f)
		gone[len(f.Blocks)-len(list[0].Blocks)]++
		left[(code.Size(f)-code.Size(list[1]))/4]++
		for _, k := range f.Blocks {
			for _, o := range k.Ops {
				kinds[o.Kind]++
			}
		}
		for _, in := range m.inputs(f, 4) {
			for _, g := range list {
				outs[checkRuns(t, f, g, in)]++
			}
		}
	}
	// Of all that there is there was enough.
	if len(gone) < 8 || gone[0] < 200 || gone[3] < 200 || len(left) < 5 || left[0] < 200 || len(kinds) != api.Get+1 || len(levels) != 3 {
		t.Errorf("P16.1: too few of a kind: %v %v %v %v", gone, left, kinds, levels)
	}
	if outs[api.OK] < 2000 || outs[api.Trapped] < 2000 || outs[api.Fuel] < 500 {
		t.Errorf("P16.2: too few of a kind: %v", outs)
	}
}

func TestGreatOnesByChance(t *testing.T) {
	m := &maker{r: rand.New(rand.NewSource(162)), size: 24}
	n := 0
	for i := range 60 {
		f := m.made(api.MaxBlocks - i%30)
		if !code.May(f) {
			continue
		}
		n++
		for _, g := range checkMadeAnew(t, f) {
			for _, in := range m.inputs(f, 2) {
				checkRuns(t, f, g, in)
			}
		}
	}
	if n < 40 {
		t.Errorf("P16.1: too few: %d", n)
	}
}

// allEnds are all ends of a block that go on at those of n but the first one.
func allEnds(n int) []api.End {
	list := []api.End{{Kind: api.Ret, Arg: 2}, {Kind: api.Trap}}
	for a := 1; a < n; a++ {
		list = append(list, api.End{Kind: api.Jump, To: []int{a}})
		for b := 1; b < n; b++ {
			list = append(list, api.End{Kind: api.If, Arg: 1, To: []int{a, b}})
		}
	}
	return list
}

// filled gives a function with these ends, in which each block has an operation
// and two phis: of the operations, and of the phis, of the blocks that come, or
// of parameters, where these aren't defined there.
func filled(ends []api.End) api.Func {
	f := api.Func{Params: []int{1, 8, 64, 1}, Ret: 8, Blocks: make([]api.Block, len(ends))}
	for at, e := range ends {
		var from, ops, phis []int
		for x, end := range ends {
			if slices.Contains(end.To, at) {
				from, ops, phis = append(from, x), append(ops, 10+x), append(phis, 20+x)
			}
		}
		f.Blocks[at] = api.Block{
			Phis: []api.Phi{{Bits: 8, Dst: 20 + at, From: from, Args: ops}, {Bits: 8, Dst: 30 + at, From: from, Args: phis}},
			Ops:  []api.Op{{Kind: api.Add, Bits: 8, Lanes: 1, Dst: 10 + at, Args: []int{20 + at, 2}}},
			End:  e,
		}
		if e.Kind == api.Ret {
			f.Blocks[at].End.Arg = 30 + at
		}
	}
	return f
}

// Each function of up to four blocks that is right, of such blocks.
func TestAllWays(t *testing.T) {
	right, one := 0, 0
	for n := 1; n <= 4; n++ {
		ends := allEnds(n)
		places := make([]int, n)
		for at := 0; at < n; {
			list := make([]api.End, n)
			for i, p := range places {
				list[i] = ends[p]
			}
			if f := filled(list); check.Check(f, api.Scalar) == api.OK {
				right++
				if g := checkMadeAnew(t, f)[0]; len(g.Blocks) < n {
					one++
				}
			}
			for at = 0; at < n; at++ {
				if places[at]++; places[at] < len(ends) {
					break
				}
				places[at] = 0
			}
		}
	}
	if right < 5000 || one < 2000 {
		t.Errorf("P16.1: too few of a kind: %d %d", right, one)
	}
}

// What isn't right is left as it is, and nothing panics.
func TestChangedByChance(t *testing.T) {
	m := &maker{r: rand.New(rand.NewSource(163)), size: 24}
	right, wrong := 0, 0
	for i := range 3000 {
		f := spared(m.made(1 + i%9))
		all := numbers(&f)
		one, other := all[m.r.Intn(len(all))], all[m.r.Intn(len(all))]
		if *one = *other; m.r.Intn(8) == 0 {
			*one = []int{-1, 0, 1, 2, 1024, 1 << 62}[m.r.Intn(6)]
		}
		if check.Check(f, api.Lanes) != api.OK {
			wrong++
			checkLeft(t, i, f)
			continue
		}
		right++
		for _, g := range checkMadeAnew(t, f) {
			for _, in := range m.inputs(f, 1) {
				checkRuns(t, f, g, in)
			}
		}
	}
	if right < 300 || wrong < 300 {
		t.Errorf("P16.1: too few of a kind: %v %v", right, wrong)
	}
}
