package affine_test

import (
	"math"
	"slices"
	"testing"

	"lockstep/affine"
	"lockstep/api"
)

const (
	top = math.MaxUint64
	mid = 1 << 63
)

// form gives a form by its Off, and its terms: values, and what they are
// multiplied by, in turn.
func form(off uint64, list ...uint64) api.Form {
	x := api.Form{Off: off}
	for i := 0; i < len(list); i += 2 {
		x.Terms = append(x.Terms, api.Term{V: int(list[i]), Scale: list[i+1]})
	}
	return x
}

// all is a form with each value that there is.
func all(off, scale uint64) api.Form {
	x := api.Form{Off: off}
	for v := 1; v <= api.MaxValue; v++ {
		x.Terms = append(x.Terms, api.Term{V: v, Scale: scale})
	}
	return x
}

// wrong are forms that may not be.
func wrong() []api.Form {
	return []api.Form{
		// A Scale is 0.
		form(0, 1, 0), form(0, 1, 1, 2, 0), form(7, 1, 0, 2, 1),
		// The values fall, or are the same.
		form(0, 2, 1, 1, 1), form(5, 1, 1, 3, 1, 2, 1), form(0, 1, 1, 1, 1), form(0, 4, 1, 5, top, 5, 1),
		// A value is below 1, or above MaxValue.
		form(0, 0, 1), form(3, 0, 1, 1, 1), form(0, 1024, 1), form(1, 1023, 1, 1024, 1),
		{Terms: []api.Term{{V: -1, Scale: 1}}, Off: 1},
		{Terms: []api.Term{{V: math.MinInt, Scale: 1}, {V: 1, Scale: 1}}},
		{Terms: []api.Term{{V: math.MaxInt, Scale: top}}, Off: top},
	}
}

// isSame tells anew whether two forms are the same.
func isSame(x, y api.Form) bool { return slices.Equal(x.Terms, y.Terms) && x.Off == y.Off }

func checkForm(t *testing.T, name string, x, want api.Form) {
	t.Helper()
	if !isSame(x, want) || !affine.May(x) || !affine.Same(x, want) {
		t.Errorf("P17.1: %s: %v, not %v", name, x, want)
	}
}

// P17.1: May

func TestMay(t *testing.T) {
	for _, x := range []api.Form{
		{}, {Terms: []api.Term{}}, form(top), form(1, 1, 1), form(0, 1023, top), form(0, 1, top, 2, mid, 1023, 1), all(top, top),
	} {
		if !affine.May(x) {
			t.Errorf("P17.1: May(%v): no", x)
		}
	}
	for _, x := range wrong() {
		if affine.May(x) {
			t.Errorf("P17.1: May(%v)", x)
		}
	}
}

// mayBe tells anew whether a form may be: of each two terms, and of each one.
func mayBe(list []api.Term) bool {
	for i, a := range list {
		for _, b := range list[:i] {
			if b.V >= a.V {
				return false
			}
		}
		if a.V < 1 || a.V > 1023 || a.Scale == 0 {
			return false
		}
	}
	return true
}

// Each list of up to three of some terms.
func TestMayOfAll(t *testing.T) {
	var some []api.Term
	for _, v := range []int{-1, 0, 1, 2, 3, 1022, 1023, 1024} {
		some = append(some, api.Term{V: v}, api.Term{V: v, Scale: 1}, api.Term{V: v, Scale: top})
	}
	lists := [][]api.Term{nil}
	yes := 0
	for i := 0; i < len(lists); i++ {
		list := lists[i]
		is := affine.May(api.Form{Terms: list, Off: uint64(i)})
		if is != mayBe(list) {
			t.Errorf("P17.1: May(%v): %v", list, is)
		}
		if is {
			yes++
		}
		if len(list) < 3 {
			for _, x := range some {
				lists = append(lists, slices.Concat(list, []api.Term{x}))
			}
		}
	}
	// Up to three of five values, each with one of two Scales.
	if yes != 1+5*2+10*4+10*8 {
		t.Errorf("P17.1: %d may be", yes)
	}
}

// P17.1: Plus, Minus, Times

func TestPlus(t *testing.T) {
	checkForm(t, "p and q", affine.Plus(form(0, 1, 1), form(0, 2, 1)), form(0, 1, 1, 2, 1))
	checkForm(t, "q and p", affine.Plus(form(0, 2, 1), form(0, 1, 1)), form(0, 1, 1, 2, 1))
	checkForm(t, "p and p", affine.Plus(form(3, 1, 1), form(4, 1, 1)), form(7, 1, 2))
	checkForm(t, "p and 8", affine.Plus(form(0, 1, 1), form(8)), form(8, 1, 1))
	checkForm(t, "8 and p", affine.Plus(form(8), form(0, 1, 1)), form(8, 1, 1))
	checkForm(t, "nothing", affine.Plus(api.Form{}, api.Form{}), api.Form{})
	checkForm(t, "p and nothing", affine.Plus(form(9, 1, 5), form(0)), form(9, 1, 5))
	// The terms of one within those of the other, behind them, and in turn.
	checkForm(t, "within", affine.Plus(form(1, 1, 1, 9, 1), form(2, 4, 2, 5, 3)), form(3, 1, 1, 4, 2, 5, 3, 9, 1))
	checkForm(t, "behind", affine.Plus(form(1, 8, 1, 9, 1), form(2, 4, 2, 5, 3)), form(3, 4, 2, 5, 3, 8, 1, 9, 1))
	checkForm(t, "in turn", affine.Plus(form(1, 2, 1, 4, 1, 6, 1), form(2, 1, 2, 3, 2, 4, 2, 5, 2)), form(3, 1, 2, 2, 1, 3, 2, 4, 3, 5, 2, 6, 1))
	// Modulo 2^64; a Scale that comes to 0 is none.
	checkForm(t, "wraps", affine.Plus(form(top, 1, top), form(2, 1, 3)), form(1, 1, 2))
	checkForm(t, "p and -p", affine.Plus(form(mid, 1, 1), form(mid, 1, top)), api.Form{})
	checkForm(t, "first gone", affine.Plus(form(1, 1, 1, 2, 1), form(2, 1, top, 3, 1)), form(3, 2, 1, 3, 1))
	checkForm(t, "middle gone", affine.Plus(form(1, 1, 1, 2, mid, 3, 1), form(2, 1, 1, 2, mid, 3, 1)), form(3, 1, 2, 3, 2))
	checkForm(t, "last gone", affine.Plus(form(1, 1, 1, 1023, 4), form(2, 1023, top-3)), form(3, 1, 1))
	// More terms than the form of a value has.
	checkForm(t, "all", affine.Plus(all(1, 1), all(2, 4)), all(3, 5))
	checkForm(t, "all gone", affine.Plus(all(1, mid), all(2, mid)), form(3))
	checkForm(t, "nothing and all", affine.Plus(form(top), all(1, top)), all(0, top))
}

func TestMinus(t *testing.T) {
	checkForm(t, "p less q", affine.Minus(form(0, 1, 1), form(0, 2, 1)), form(0, 1, 1, 2, top))
	checkForm(t, "q less p", affine.Minus(form(0, 2, 1), form(0, 1, 1)), form(0, 1, top, 2, 1))
	checkForm(t, "p less p", affine.Minus(form(0, 1, 1), form(0, 1, 1)), api.Form{})
	checkForm(t, "p less 8", affine.Minus(form(0, 1, 1), form(8)), form(top-7, 1, 1))
	checkForm(t, "8 less p", affine.Minus(form(8), form(0, 1, 1)), form(8, 1, top))
	checkForm(t, "p less nothing", affine.Minus(form(5, 1, 7), api.Form{}), form(5, 1, 7))
	checkForm(t, "nothing less p", affine.Minus(api.Form{}, form(5, 1, 7)), form(top-4, 1, top-6))
	checkForm(t, "nothing", affine.Minus(api.Form{}, api.Form{}), api.Form{})
	checkForm(t, "in turn", affine.Minus(form(1, 2, 9, 4, 9, 6, 9), form(2, 1, 2, 3, 2, 4, 2, 5, 2)), form(top, 1, top-1, 2, 9, 3, top-1, 4, 7, 5, top-1, 6, 9))
	checkForm(t, "half", affine.Minus(form(mid), form(mid+1, 3, mid)), form(top, 3, mid))
	checkForm(t, "one gone", affine.Minus(form(0, 1, 3, 2, 4), form(0, 1, 3, 2, 5)), form(0, 2, top))
	checkForm(t, "all", affine.Minus(all(4, 5), all(1, 7)), all(3, top-1))
	checkForm(t, "all gone", affine.Minus(all(4, 5), all(5, 5)), form(top))
}

func TestTimes(t *testing.T) {
	checkForm(t, "thrice", affine.Times(form(5, 1, 1, 7, 2), 3), form(15, 1, 3, 7, 6))
	checkForm(t, "once", affine.Times(form(5, 1, 1, 7, top), 1), form(5, 1, 1, 7, top))
	checkForm(t, "not at all", affine.Times(form(5, 1, 1, 7, 2), 0), api.Form{})
	checkForm(t, "less", affine.Times(form(5, 1, 1, 7, top), top), form(top-4, 1, top, 7, 1))
	checkForm(t, "nothing", affine.Times(api.Form{}, top), api.Form{})
	checkForm(t, "a number", affine.Times(form(7), 6), form(42))
	checkForm(t, "wraps", affine.Times(form(1<<32+1, 3, 1<<33+1), 1<<32), form(1<<32, 3, 1<<32))
	// A Scale that comes to 0 is none, wherever it is.
	checkForm(t, "some gone", affine.Times(form(3, 1, 2, 2, 3, 3, 4, 4, 5, 5, 6), mid), form(mid, 2, mid, 4, mid))
	checkForm(t, "all gone", affine.Times(form(2, 1, 2, 9, 1<<62), mid), api.Form{})
	checkForm(t, "all", affine.Times(all(7, 9), 5), all(35, 45))
}

func TestOfFormsThatMayNotBe(t *testing.T) {
	good := []api.Form{{}, form(1), form(3, 1, 1), all(1, 1)}
	none := func(name string, x, y, z api.Form) {
		if len(z.Terms) > 0 || z.Off != 0 {
			t.Errorf("P17.1: %s of %v and %v: %v", name, x, y, z)
		}
	}
	for _, x := range wrong() {
		for _, y := range slices.Concat(good, wrong()) {
			none("Plus", x, y, affine.Plus(x, y))
			none("Plus", y, x, affine.Plus(y, x))
			none("Minus", x, y, affine.Minus(x, y))
			none("Minus", y, x, affine.Minus(y, x))
		}
		for _, n := range []uint64{0, 1, 2, mid, top} {
			none("Times", x, form(n), affine.Times(x, n))
		}
	}
}

// small are all forms of some values, Scales and Offs.
func small() []api.Form {
	var list []api.Form
	scales := []uint64{0, 1, 2, mid, top}
	for _, off := range []uint64{0, 1, mid, top} {
		for _, a := range scales {
			for _, b := range scales {
				x := api.Form{Off: off}
				for _, n := range []api.Term{{V: 1, Scale: a}, {V: 1023, Scale: b}} {
					if n.Scale != 0 {
						x.Terms = append(x.Terms, n)
					}
				}
				list = append(list, x)
			}
		}
	}
	return list
}

// comes tells what a form comes to, if each of its values is that of the list,
// by its number.
func comes(x api.Form, values []uint64) uint64 {
	n := x.Off
	for _, t := range x.Terms {
		n += values[t.V] * t.Scale
	}
	return n
}

// checkComes checks what is made of two forms, by what they come to: with all
// values 0, each one alone 1, and with some others.
func checkComes(t *testing.T, x, y api.Form, n uint64, others []uint64) {
	t.Helper()
	plus, minus, times := affine.Plus(x, y), affine.Minus(x, y), affine.Times(x, n)
	if !affine.May(plus) || !affine.May(minus) || !affine.May(times) {
		t.Errorf("P17.1: of %v, %v and %d: %v, %v, %v may not be", x, y, n, plus, minus, times)
	}
	is := func(values []uint64) {
		a, b := comes(x, values), comes(y, values)
		if comes(plus, values) != a+b || comes(minus, values) != a-b || comes(times, values) != n*a {
			t.Errorf("P17.1: of %v, %v and %d: %v, %v, %v", x, y, n, plus, minus, times)
		}
	}
	values := make([]uint64, api.MaxValue+1)
	is(values)
	for _, v := range slices.Concat(x.Terms, y.Terms) {
		values[v.V] = 1
		is(values)
		values[v.V] = 0
	}
	is(others)
}

func TestOfSmallForms(t *testing.T) {
	others := make([]uint64, api.MaxValue+1)
	for v := range others {
		others[v] = uint64(v)*0x9e3779b97f4a7c15 + 1
	}
	for _, x := range small() {
		for i, y := range small() {
			checkComes(t, x, y, []uint64{0, 1, 2, 3, mid, mid + 1, top}[i%7], others)
		}
	}
}

// P17.1: Same

func TestSame(t *testing.T) {
	for i, x := range small() {
		for k, y := range small() {
			if affine.Same(x, y) != (i == k) {
				t.Errorf("P17.1: Same(%v, %v): not %v", x, y, i == k)
			}
		}
	}
	if !affine.Same(all(1, 2), all(1, 2)) || affine.Same(all(1, 2), all(1, 3)) || affine.Same(all(1, 2), all(2, 2)) {
		t.Error("P17.1: Same of all")
	}
	if !affine.Same(api.Form{Terms: []api.Term{}, Off: 3}, form(3)) || !affine.Same(form(3), api.Form{Terms: []api.Term{}, Off: 3}) {
		t.Error("P17.1: no terms, and none")
	}
	// One has more terms than the other, in front, behind or between.
	x := form(1, 2, 2, 4, 4)
	for _, y := range []api.Form{form(1, 1, 1, 2, 2, 4, 4), form(1, 2, 2, 3, 3, 4, 4), form(1, 2, 2, 4, 4, 5, 5), form(1, 2, 2), form(1, 4, 4), form(1)} {
		if affine.Same(x, y) || affine.Same(y, x) {
			t.Errorf("P17.1: Same(%v, %v)", x, y)
		}
	}
}

// Of forms that may not be, too, it is told whether they are the same.
func TestSameOfFormsThatMayNotBe(t *testing.T) {
	for i, x := range wrong() {
		for k, y := range wrong() {
			if affine.Same(x, y) != (i == k) {
				t.Errorf("P17.1: Same(%v, %v): not %v", x, y, i == k)
			}
		}
		if affine.Same(x, api.Form{}) || affine.Same(form(x.Off), x) {
			t.Errorf("P17.1: Same(%v, no form)", x)
		}
	}
}
