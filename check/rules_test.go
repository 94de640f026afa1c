package check_test

import (
	"math/rand"
	"slices"
	"testing"

	"lockstep/api"
	"lockstep/check"
	"lockstep/code"
)

// spared gives a function whose lists have spare room, and those rooms.
func spared(f api.Func) (api.Func, [][]int) {
	f = copied(f)
	var rooms [][]int
	for _, l := range lists(&f) {
		room := append(slices.Clone(*l), 5, 1, 7)
		*l, rooms = room[:len(*l)], append(rooms, room)
	}
	return f, rooms
}

// looked gives functions at which all is looked, and some at which it isn't.
func looked(t *testing.T) []api.Func {
	t.Helper()
	list := []api.Func{whole(t), fan(), chain(1, 20), {}}
	for _, some := range faults() {
		f := whole(t)
		some[0](&f)
		list = append(list, f)
	}
	m := &maker{r: rand.New(rand.NewSource(114)), level: api.Lanes}
	for range 50 {
		list = append(list, m.made())
	}
	return list
}

// Rules 3 and 5

func TestNothingHandedInIsChanged(t *testing.T) {
	for _, was := range looked(t) {
		f, rooms := spared(was)
		for level := -1; level <= 3; level++ {
			check.Check(f, level)
		}
		check.Shapes(f)
		check.Last(f)
		if !code.Same(f, was) {
			t.Errorf("P11.1: what was handed in was changed: %v, not %v", f, was)
		}
		for i, l := range lists(&was) {
			if !slices.Equal(rooms[i], append(slices.Clone(*l), 5, 1, 7)) {
				t.Errorf("P11.1: spare room was changed: %v", rooms[i])
			}
		}
	}
}

func TestNothingHandedInIsKept(t *testing.T) {
	for _, f := range looked(t) {
		want := again{f, api.Lanes}.shapes()
		shapes := check.Shapes(f)
		other := copied(f)
		for _, n := range numbers(&other) {
			*n = 1
		}
		checkAll(t, f)
		check.Shapes(other)
		for v, shape := range want {
			if shapes[v] != shape || len(shapes) != len(want) {
				t.Errorf("P11.1: shapes hang on what was handed in: %v, not %v", shapes, want)
			}
		}
		// An answer that is written over doesn't matter for the next one.
		clear(shapes)
		checkShapes(t, f, want)
	}
}

func TestTheSameAgain(t *testing.T) {
	for _, f := range looked(t) {
		for level := range 3 {
			e := check.Check(f, level)
			check.Check(whole(t), level)
			for range 3 {
				checkAt(t, copied(f), level, e)
			}
		}
	}
}
