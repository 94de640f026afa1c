package alias_test

import (
	"math/rand"
	"slices"
	"testing"

	"lockstep/alias"
	"lockstep/api"
	"lockstep/check"
	"lockstep/eval"
	"lockstep/mem"
)

// P18.3

const (
	// teller is where it is told which touch is next, behind all else.
	teller = api.MaxMem - 4
	begin  = 0xffff // the place that tells that a block begins
)

// telling gives a function that tells of each block that it begins, and of each
// touch that it is next.
func telling(f api.Func) api.Func {
	shapes := check.Shapes(f)
	free := 0
	fresh := func() int {
		for free++; shapes[free] != [2]int{}; free++ {
		}
		return free
	}
	at := fresh()
	put := func(block, place int) []api.Op {
		v := fresh()
		return []api.Op{
			{Kind: api.Const, Bits: 32, Lanes: 1, Dst: v, Imm: uint64(block)<<16 | uint64(place)},
			{Kind: api.Store, Bits: 32, Lanes: 1, Args: []int{at, v}},
		}
	}
	f.Blocks = slices.Clone(f.Blocks)
	for b := range f.Blocks {
		k := &f.Blocks[b]
		ops := put(b, begin)
		if b == 0 {
			ops = append([]api.Op{{Kind: api.Const, Bits: 64, Lanes: 1, Dst: at, Imm: teller}}, ops...)
		}
		for place, o := range k.Ops {
			switch o.Kind {
			case api.Load, api.Store, api.Pload, api.Pstore:
				ops = append(ops, put(b, place)...)
			}
			ops = append(ops, o)
		}
		k.Ops = ops
	}
	return f
}

func ran(t *testing.T, f api.Func, args []uint64, fuel int) []api.Touch {
	t.Helper()
	m, _ := mem.New(slices.Repeat([]byte{40, 1, 0, 0, 0, 0, 0, 0}, api.MaxMem/8))
	if _, e := eval.Run(f, args, m, fuel); e != api.OK {
		t.Fatalf("P18.3: %v can't be run: %v", printed(f), e)
	}
	return m.Trace()
}

// turn is one time that a block was run: which bytes each touch touched.
type turn struct {
	block int
	bytes map[int][]uint64
}

// turns takes a trace apart.
func turns(trace []api.Touch) []turn {
	var list []turn
	place := 0
	for len(trace) > 0 {
		if trace[0].At != teller {
			now := list[len(list)-1]
			now.bytes[place] = append(now.bytes[place], trace[0].At)
			trace = trace[1:]
			continue
		}
		block := int(trace[2].Byte) | int(trace[3].Byte)<<8
		place = int(trace[0].Byte) | int(trace[1].Byte)<<8
		if place == begin {
			list = append(list, turn{block, map[int][]uint64{}})
		}
		trace = trace[4:]
	}
	return list
}

// seen counts the pairs that were touched in runs.
type seen struct{ apart, next, common, again int }

// checkTurn checks P18.3 of a block that was run.
func checkTurn(t *testing.T, f api.Func, x turn, n *seen) {
	t.Helper()
	for a, first := range x.bytes {
		for b, second := range x.bytes {
			if a != b {
				checkTouched(t, f, [3]int{x.block, a, b}, first, second, n)
			}
		}
	}
}

// checkTouched checks what is told of two touches, where both touched something.
func checkTouched(t *testing.T, f api.Func, at [3]int, first, second []uint64, n *seen) {
	t.Helper()
	distance, is := alias.Distance(f, at[0], at[1], at[2])
	if is && second[0]-first[0] != distance {
		t.Errorf("P18.3: %v: of %v the distance is %d, but %v and %v were touched", printed(f), at, distance, first, second)
	}
	common := slices.ContainsFunc(first, func(x uint64) bool { return slices.Contains(second, x) })
	if alias.Apart(f, at[0], at[1], at[2]) {
		n.apart++
		if common {
			t.Errorf("P18.3: %v: %v are apart, but %v and %v were touched", printed(f), at, first, second)
		}
	} else if common && is {
		n.common++
	}
	_, length, _ := alias.Address(f, at[0], at[1])
	if alias.Follows(f, at[0], at[1], at[2]) && len(first) == length {
		n.next++
		if last := first[length-1]; second[0] != last+1 {
			t.Errorf("P18.3: %v: of %v the second follows, but %v and %v were touched", printed(f), at, first, second)
		}
	}
}

// checkRun checks P18.3 in a run. It tells whether what the function touches can't
// be mistaken for what tells of it.
func checkRun(t *testing.T, f api.Func, args []uint64, fuel int, n *seen) bool {
	t.Helper()
	if slices.ContainsFunc(ran(t, f, args, fuel), func(x api.Touch) bool { return x.At >= teller }) {
		return false
	}
	g := telling(f)
	if e := check.Check(g, api.Lanes); e != api.OK {
		return false
	}
	was := map[int]int{}
	// No more turns than fuel was left for: what tells takes some, too.
	for _, x := range turns(ran(t, g, args, fuel)) {
		checkTurn(t, f, x, n)
		if was[x.block]++; was[x.block] > 1 && len(x.bytes) > 1 {
			n.again++
		}
	}
	return true
}

func TestRuns(t *testing.T) {
	// From p on by 4, till the byte is there: four bytes, the one behind, two across
	// both, and, at last, the first of these again.
	f := fn(t, `block const 64 1 5 () 4 const 64 1 6 () 1 jump 0 (1)
		block phi 64 9 (0 1) (1 10) add 64 1 10 (9 5) 0 sub 64 1 11 (10 6) 0
		load 32 1 12 (9) 0 load 8 1 13 (10) 0 pack 8 2 14 (13 13) 0 eq 8 1 15 (13 3) 0
		store 8 2 0 (11 14) 0 pstore 8 1 0 (15 11 3) 0 if 15 (2 1)
		block ret 3 ()`)
	checkTouches(t, f, 1, 2, 3, 6, 7)
	checkPair(t, f, 1, 2, 3, 4, true, true)
	checkPair(t, f, 1, 2, 6, 3, false, false)
	checkPair(t, f, 1, 6, 3, 1, false, false)
	checkPair(t, f, 1, 7, 3, 1, true, true)
	var n seen
	for _, b := range []uint64{0, 40, 99} {
		if !checkRun(t, f, []uint64{100, 0, b, 0}, 300, &n) {
			t.Errorf("P18.3: it wasn't run")
		}
	}
	if n.apart < 40 || n.next < 20 || n.common < 80 || n.again < 15 {
		t.Errorf("P18.3: too few of a kind: %+v", n)
	}
}

func TestRunsByChance(t *testing.T) {
	m := &maker{r: rand.New(rand.NewSource(182))}
	runs := 0
	var n seen
	for i := range 250 {
		f := m.made(1+i%6, 8)
		if check.Check(f, api.Lanes) != api.OK {
			continue
		}
		for range 2 {
			args := make([]uint64, len(f.Params))
			for i := range args {
				args[i] = 300 + uint64(m.r.Intn(200))
			}
			if checkRun(t, f, args, 150, &n) {
				runs++
			}
		}
	}
	if runs < 300 || n.apart < 1500 || n.next < 150 || n.common < 1000 || n.again < 300 {
		t.Errorf("P18.3: too few of a kind: %d %+v", runs, n)
	}
}
