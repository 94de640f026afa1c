package eval_test

import (
	"math"
	"math/rand"
	"slices"
	"testing"

	"lockstep/api"
	"lockstep/check"
)

// P13.1

func TestRunsByChance(t *testing.T) {
	m := &maker{r: rand.New(rand.NewSource(131))}
	seen := map[api.Code]int{}
	kinds := map[int]int{}
	touched := 0
	for range 4000 {
		g := m.given()
		g.fuel = 300
		if m.r.Intn(4) == 0 {
			g.fuel = m.r.Intn(30)
		}
		want := rerun(g)
		checkRun(t, g, want)
		seen[want.run.Code]++
		touched += len(want.trace)
		for _, k := range g.f.Blocks {
			for _, o := range k.Ops {
				kinds[o.Kind]++
			}
		}
	}
	// All that can come out did, and all kinds were there.
	if seen[api.OK] < 300 || seen[api.Trapped] < 300 || seen[api.Fuel] < 300 || len(kinds) != api.Get+1 || touched < 10000 {
		t.Errorf("P13.1: too few of a kind: %v %v %v", seen, kinds, touched)
	}
}

// Whether it is run at all is what check says.
func TestChangedByChance(t *testing.T) {
	m := &maker{r: rand.New(rand.NewSource(132))}
	right, wrong := 0, 0
	for range 5000 {
		g := m.given()
		g.fuel = 100
		g.f = copied(g.f)
		all := numbers(&g.f)
		one, other := all[m.r.Intn(len(all))], all[m.r.Intn(len(all))]
		if *one = *other; m.r.Intn(8) == 0 {
			*one = []int{-1, 0, 1, 2, 1024, math.MaxInt}[m.r.Intn(6)]
		}
		if check.Check(g.f, api.Lanes) != api.OK || len(g.args) != len(g.f.Params) {
			wrong++
			checkArg(t, g)
			continue
		}
		right++
		checkRun(t, g, rerun(g))
	}
	if right < 500 || wrong < 500 {
		t.Errorf("P13.1: too few of a kind: %v %v", right, wrong)
	}
}

// P13.2

func TestWithMoreFuel(t *testing.T) {
	m := &maker{r: rand.New(rand.NewSource(133))}
	ended := 0
	for range 600 {
		g := m.given()
		g.fuel = 200
		all := ran(t, g)
		if all.run.Code != api.Fuel {
			ended++
		}
		for g.fuel = range all.run.Steps + 4 {
			checkFuel(t, g, all)
		}
		if all.run.Code != api.Fuel {
			g.fuel = math.MaxInt
			checkFuel(t, g, all)
		}
	}
	if ended < 200 {
		t.Errorf("P13.2: too few ended: %v", ended)
	}
}

// checkFuel checks what comes out with some fuel against all that comes out with
// enough of it.
func checkFuel(t *testing.T, g given, all came) {
	t.Helper()
	got := ran(t, g)
	switch {
	case g.fuel < all.run.Steps:
		if got.run != dry(g.fuel) || len(got.trace) > len(all.trace) || !slices.Equal(got.trace, all.trace[:len(got.trace)]) {
			t.Errorf("P13.2: Run(%v): %v, though with more fuel %v", g, got, all)
		}
	case all.run.Code != api.Fuel:
		if !got.same(all) {
			t.Errorf("P13.2: Run(%v): %v, though with less fuel %v", g, got, all)
		}
	}
}

func TestWhatIsNotThereIsNotTouched(t *testing.T) {
	m := &maker{r: rand.New(rand.NewSource(134))}
	traps := 0
	for range 3000 {
		g := m.given()
		g.fuel = 100
		got := ran(t, g)
		bytes := slices.Clone(g.bytes)
		for _, x := range got.trace {
			if x.At >= uint64(len(bytes)) {
				t.Fatalf("P13.2: Run(%v) touched %v", g, x)
			}
			if x.Write {
				bytes[x.At] = x.Byte
			}
			if bytes[x.At] != x.Byte {
				t.Errorf("P13.2: Run(%v) touched %v, where %d was", g, x, bytes[x.At])
			}
		}
		if !slices.Equal(bytes, got.bytes) {
			t.Errorf("P13.2: Run(%v) left %v, not %v", g, got.bytes, bytes)
		}
		if got.run.Code == api.Trapped {
			traps++
		}
	}
	if traps < 300 {
		t.Errorf("P13.2: too few traps: %v", traps)
	}
}
