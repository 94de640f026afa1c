package alias_test

import (
	"math/rand"
	"slices"
	"testing"

	"lockstep/api"
	"lockstep/check"
)

// tally counts what came up.
type tally struct{ touches, pairs, apart, nested, next, alike, other int }

func (n tally) isEnough(least int) bool {
	return min(n.touches, n.pairs, n.apart, n.nested, n.next, n.alike, n.other) >= least
}

// checkRetold checks all that is told of a function that is right.
func checkRetold(t *testing.T, f api.Func, n *tally) {
	t.Helper()
	for block := range f.Blocks {
		list := retold(f, block)
		var places []int
		for _, x := range list {
			places = append(places, x.at)
		}
		checkTouches(t, f, block, places...)
		for at := -1; at <= len(f.Blocks[block].Ops); at++ {
			if i := slices.Index(places, at); i >= 0 {
				checkAddress(t, f, block, at, list[i].address, list[i].length)
				n.touches++
				continue
			}
			checkNoTouch(t, f, block, at)
			if len(places) > 0 {
				checkNoPair(t, f, block, at, places[0])
			}
		}
		checkPairs(t, f, block, list, n)
	}
}

func checkPairs(t *testing.T, f api.Func, block int, list []touch, n *tally) {
	t.Helper()
	for _, a := range list {
		for _, b := range list {
			distance, is := b.behind(a)
			if !is {
				checkNoPair(t, f, block, a.at, b.at)
				n.other++
				continue
			}
			apart, next := b.isApartFrom(a), b.isNextTo(a)
			checkPair(t, f, block, a.at, b.at, distance, apart, next)
			n.pairs++
			switch {
			case next:
				n.next++
			case apart:
				n.apart++
			case distance > 0:
				n.nested++
			case a.at != b.at:
				n.alike++
			}
		}
	}
}

// P18.1, P18.2

func TestFunctionsByChance(t *testing.T) {
	m := &maker{r: rand.New(rand.NewSource(180))}
	var n tally
	for i := range 300 {
		f := m.made(1+i%6, 8)
		if e := check.Check(f, api.Lanes); e != api.OK {
			// The maker may make too many.
			if e != api.Size {
				t.Fatalf("%v isn't right: %v", printed(f), e)
			}
			continue
		}
		checkRetold(t, f, &n)
	}
	if !n.isEnough(150) {
		t.Errorf("P18.2: too few of a kind: %+v", n)
	}
}

// What isn't right has no touches, and nothing panics.
func TestChangedByChance(t *testing.T) {
	m := &maker{r: rand.New(rand.NewSource(181))}
	right, wrong := 0, 0
	var n tally
	for i := range 1500 {
		f := spared(m.made(1+i%5, 5))
		all := numbers(&f)
		one, other := all[m.r.Intn(len(all))], all[m.r.Intn(len(all))]
		if *one = *other; m.r.Intn(8) == 0 {
			*one = []int{-1, 0, 1, 2, 1024, 1 << 62}[m.r.Intn(6)]
		}
		if m.r.Intn(8) == 0 {
			list := lists(&f)
			l := list[m.r.Intn(len(list))]
			*l = (*l)[:m.r.Intn(len(*l)+1)]
		}
		if check.Check(f, api.Lanes) == api.OK {
			right++
			checkRetold(t, f, &n)
			continue
		}
		wrong++
		for block, k := range f.Blocks {
			checkTouches(t, f, block)
			for at := range k.Ops {
				checkNoTouch(t, f, block, at)
				checkNoPair(t, f, block, at, m.r.Intn(len(k.Ops)))
			}
		}
	}
	if right < 200 || wrong < 600 {
		t.Errorf("P18.1: too few of a kind: %v %v", right, wrong)
	}
}
