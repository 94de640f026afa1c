package eval_test

import (
	"math/rand"
	"slices"
	"testing"

	"lockstep/api"
	"lockstep/code"
	"lockstep/eval"
)

// spared gives a function whose lists have spare room, and those rooms.
func spared(f api.Func) (api.Func, [][]int) {
	f = copied(f)
	var rooms [][]int
	for _, l := range lists(&f) {
		room := append(slices.Clone(*l), 5, 1, 7)
		*l, rooms = room[:len(*l)], append(rooms, room)
	}
	return f, rooms
}

// Rules 3 to 5

func TestNothingHandedInIsChanged(t *testing.T) {
	m := &maker{r: rand.New(rand.NewSource(135))}
	for i := range 300 {
		g := m.given()
		g.fuel = 50 - 60*(i%2) // below 0 every other time
		was, rooms := spared(g.f)
		wasArgs := append(slices.Clone(g.args), 77, 78)
		args := slices.Clone(wasArgs)
		eval.Run(was, args[:len(g.args)], made(t, g.bytes), g.fuel)
		if !code.Same(was, g.f) || !slices.Equal(args, wasArgs) {
			t.Errorf("P13.1: what was handed in was changed: %v, not %v; %v, not %v", was, g.f, args, wasArgs)
		}
		for i, l := range lists(&g.f) {
			if !slices.Equal(rooms[i], append(slices.Clone(*l), 5, 1, 7)) {
				t.Errorf("P13.1: spare room was changed: %v", rooms[i])
			}
		}
	}
}

// What is handed in may be written over behind the call, and the memory is as it
// was left.
func TestNothingHandedInIsKept(t *testing.T) {
	m := &maker{r: rand.New(rand.NewSource(136))}
	for range 300 {
		g := m.given()
		g.fuel = 50
		want := rerun(g)
		f, args, memory := copied(g.f), slices.Clone(g.args), made(t, g.bytes)
		r, _ := eval.Run(f, args, memory, g.fuel)
		for _, n := range numbers(&f) {
			*n = 1
		}
		clear(args)
		eval.Run(f, args, memory, g.fuel)
		if got := (came{r, memory.Bytes(), memory.Trace()}); !got.same(want) {
			t.Errorf("P13.1: Run(%v): %v, not %v", g, got, want)
		}
		checkRun(t, g, want)
	}
}

// A memory is used: what one run leaves there the next one finds.
func TestOneMemory(t *testing.T) {
	m := made(t, []byte{5, 0})
	f := fn(t, "func (64 8) 8 block load 8 1 3 (1) 0 add 8 1 4 (3 2) 0 store 8 1 0 (1 4) 0 ret 4 ()")
	var trace []api.Touch
	for i := range byte(6) {
		was := 5 + 7*i
		if r, e := eval.Run(f, []uint64{0, 7}, m, plenty); e != api.OK || r != returned(uint64(was+7), 4) {
			t.Errorf("P13.1: %v %v", r, e)
		}
		trace = slices.Concat(trace, reads(0, was), writes(0, was+7))
		// With too little fuel it has read, but not written.
		if r, e := eval.Run(f, []uint64{0, 7}, m, 2); e != api.OK || r != dry(2) {
			t.Errorf("P13.1: %v %v", r, e)
		}
		trace = slices.Concat(trace, reads(0, was+7))
		// Where it isn't run, nothing is done.
		if _, e := eval.Run(f, []uint64{0}, m, plenty); e != api.Arg {
			t.Errorf("P13.1: %v", e)
		}
	}
	if b := m.Bytes(); !slices.Equal(b, []byte{47, 0}) || !slices.Equal(m.Trace(), trace) {
		t.Errorf("P13.1: %v %v", b, m.Trace())
	}
	// What a run touched ahead of a trap stays touched.
	f = fn(t, "func (64 8) 8 block store 8 1 0 (1 2) 0 load 16 1 3 (1) 0 ret 2 ()")
	if r, e := eval.Run(f, []uint64{1, 9}, m, plenty); e != api.OK || r != trapped(2) || !slices.Equal(m.Bytes(), []byte{47, 9}) {
		t.Errorf("P13.1: %v %v %v", r, e, m.Bytes())
	}
}

// The same is answered, whatever was run between.
func TestTheSameAgain(t *testing.T) {
	m := &maker{r: rand.New(rand.NewSource(137))}
	var all []given
	var outs []came
	for range 100 {
		g := m.given()
		g.fuel = 60
		all, outs = append(all, g), append(outs, ran(t, g))
	}
	for i := range all {
		i = len(all) - 1 - i
		checkRun(t, all[i], outs[i])
	}
}
