package ifconv_test

import (
	"math/rand"
	"slices"
	"testing"

	"lockstep/api"
	"lockstep/check"
	"lockstep/code"
	"lockstep/hammock"
	"lockstep/ifconv"
)

// input is what a function is run with.
type input struct {
	args  []uint64
	bytes []byte
}

// inputs gives some for a function that m made.
func (m *maker) inputs(f api.Func, n int) []input {
	list := make([]input, n)
	for i := range list {
		list[i].bytes = make([]byte, m.size)
		m.r.Read(list[i].bytes)
		for range f.Params {
			list[i].args = append(list[i].args, m.r.Uint64()>>m.r.Intn(64))
		}
	}
	return list
}

// checkRuns checks P15.3: with enough fuel what was made of f does what f did;
// and where f goes on and on, it does so, too. It gives how f came out.
func checkRuns(t *testing.T, f, g api.Func, in input, merged int) api.Code {
	t.Helper()
	const fuel = 256
	x := ran(t, f, in.args, in.bytes, fuel)
	if x.run.Code == api.Fuel {
		// Each that is merged saves one step in two at most: the If, ahead of a Jump.
		y := ran(t, g, in.args, in.bytes, fuel>>merged)
		if y.run.Code != api.Fuel || len(y.trace) > len(x.trace) || !slices.Equal(y.trace, x.trace[:len(y.trace)]) {
			t.Errorf("P15.3: %v\nof %v comes out as %v, not %v", printed(g), printed(f), y, x)
		}
		return api.Fuel
	}
	y := ran(t, g, in.args, in.bytes, plenty)
	if !x.isSame(y) {
		t.Errorf("P15.3: %v\nof %v comes out as %v, not %v", printed(g), printed(f), y, x)
	}
	return x.run.Code
}

func TestMergeByChance(t *testing.T) {
	m := &maker{r: rand.New(rand.NewSource(151)), size: 24}
	codes, outs := map[api.Code]int{}, map[api.Code]int{}
	kinds := map[int]int{}
	for i := range 1500 {
		f := m.made(1 + i%12)
		for _, h := range hammock.All(f) {
			g, e := ifconv.Merge(f, h)
			checkMadeAnew(t, f, h, g, e)
			if codes[e]++; e != api.OK {
				continue
			}
			for _, o := range between(f, h) {
				kinds[o.Kind]++
			}
			for _, in := range m.inputs(f, 6) {
				outs[checkRuns(t, f, g, in, 1)]++
			}
		}
	}
	// All that can come out did, and all kinds were between.
	if codes[api.OK] < 800 || codes[api.None] < 50 || codes[api.Size] < 50 || len(kinds) != api.Pack {
		t.Errorf("P15.1: too few of a kind: %v %v", codes, kinds)
	}
	if outs[api.OK] < 1000 || outs[api.Trapped] < 1000 || outs[api.Fuel] < 200 {
		t.Errorf("P15.3: too few of a kind: %v", outs)
	}
}

// checkMadeAnew checks what Merge answers against what is made anew.
func checkMadeAnew(t *testing.T, f api.Func, h api.Hammock, g api.Func, e api.Code) {
	t.Helper()
	want, fits := remade(f, h)
	told := api.OK
	switch {
	case slices.ContainsFunc(between(f, h), isWide):
		want, told = api.Func{}, api.None
	case !fits:
		want, told = api.Func{}, api.Size
	}
	if e != told || !code.Same(g, want) {
		t.Errorf("P15.1: Merge(%v, %v): %v %v\nnot %v %v", printed(f), h, e, printed(g), told, printed(want))
	}
	if e == api.OK && check.Check(g, max(levelOf(f), api.Guarded)) != api.OK {
		t.Errorf("P15.3: %v\nof %v isn't right", printed(g), printed(f))
	}
}

func TestAllByChance(t *testing.T) {
	m := &maker{r: rand.New(rand.NewSource(152)), size: 24}
	merged, outs := map[int]int{}, map[api.Code]int{}
	for i := range 1200 {
		f := m.made(1 + i%16)
		most := []int{-1, 0, 1, 3, 6, 10, 99, 99}[i/16%8]
		g := ifconv.All(f, most)
		if want := remadeAll(f, most); !code.Same(g, want) {
			t.Errorf("P15.2: All(%v, %d): %v\nnot %v", printed(f), most, printed(g), printed(want))
		}
		if check.Check(g, max(levelOf(f), api.Guarded)) != api.OK {
			t.Errorf("P15.3: %v\nof %v isn't right", printed(g), printed(f))
		}
		n := ifs(f) - ifs(g)
		merged[n]++
		for _, in := range m.inputs(f, 4) {
			outs[checkRuns(t, f, g, in, n)]++
		}
	}
	if len(merged) < 5 || merged[1] < 100 || merged[2] < 50 || outs[api.OK] < 500 || outs[api.Trapped] < 500 || outs[api.Fuel] < 100 {
		t.Errorf("P15.2: too few of a kind: %v %v", merged, outs)
	}
}

// ifs tells how many Ifs there are.
func ifs(f api.Func) int {
	n := 0
	for _, k := range f.Blocks {
		if k.End.Kind == api.If {
			n++
		}
	}
	return n
}

// What isn't a hammock, or isn't of a function that is right, is None, and
// nothing panics.
func TestChangedByChance(t *testing.T) {
	m := &maker{r: rand.New(rand.NewSource(153)), size: 24}
	right, wrong := 0, 0
	for i := range 3000 {
		f := m.made(1 + i%9)
		h := api.Hammock{At: m.r.Intn(10) - 1, Then: m.r.Intn(10) - 1, Else: m.r.Intn(10) - 1, Join: m.r.Intn(10) - 1}
		if list := hammock.All(f); len(list) > 0 {
			h = list[m.r.Intn(len(list))]
		}
		f = spared(f)
		all := numbers(&f)
		one, other := all[m.r.Intn(len(all))], all[m.r.Intn(len(all))]
		if *one = *other; m.r.Intn(8) == 0 {
			*one = []int{-1, 0, 1, 2, 1024, 1 << 62}[m.r.Intn(6)]
		}
		if check.Check(f, api.Lanes) != api.OK {
			wrong++
			checkNot(t, f, h, api.None)
			if g := ifconv.All(f, 99); !code.Same(g, f) {
				t.Errorf("P15.2: All(%v): %v", f, g)
			}
			continue
		}
		right++
		g, e := ifconv.Merge(f, h)
		if !hammock.Is(f, h) {
			checkNot(t, f, h, api.None)
			continue
		}
		checkMadeAnew(t, f, h, g, e)
		for _, in := range m.inputs(f, 2) {
			if e == api.OK {
				checkRuns(t, f, g, in, 1)
			}
		}
	}
	if right < 300 || wrong < 300 {
		t.Errorf("P15.1: too few of a kind: %v %v", right, wrong)
	}
}
