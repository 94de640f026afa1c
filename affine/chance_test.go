package affine_test

import (
	"math/rand"
	"slices"
	"testing"

	"lockstep/affine"
	"lockstep/api"
	"lockstep/check"
	"lockstep/eval"
	"lockstep/mem"
	"lockstep/text"
)

func printed(f api.Func) string {
	s, _ := text.Print(f)
	return s
}

// P17.1

// someForm gives a form of up to so many of the first values that there are.
func someForm(r *rand.Rand, terms, values int) api.Form {
	x := api.Form{Off: r.Uint64()}
	list := r.Perm(values)[:r.Intn(terms+1)]
	slices.Sort(list)
	for _, v := range list {
		n := []uint64{1, 2, mid, top, r.Uint64() | 1, r.Uint64() << 60, r.Uint64() >> r.Intn(64)}[r.Intn(7)]
		x.Terms = append(x.Terms, api.Term{V: v + 1, Scale: max(n, 1)})
	}
	return x
}

func TestFormsByChance(t *testing.T) {
	r := rand.New(rand.NewSource(170))
	others := make([]uint64, api.MaxValue+1)
	for range 2000 {
		for v := range others {
			others[v] = r.Uint64()
		}
		terms := 1 + r.Intn(25)
		values := []int{terms, 2 * terms, api.MaxValue}[r.Intn(3)]
		x, y := someForm(r, terms, values), someForm(r, terms, values)
		n := r.Uint64() << r.Intn(64)
		checkComes(t, x, y, n, others)
		// Plus and Minus undo one another; twice is once and once more.
		if z := affine.Minus(affine.Plus(x, y), y); !affine.Same(z, x) {
			t.Errorf("P17.1: %v, and less %v: %v", x, y, z)
		}
		if z := affine.Plus(x, x); !affine.Same(z, affine.Times(x, 2)) {
			t.Errorf("P17.1: twice %v: %v", x, z)
		}
		if z := affine.Minus(x, x); !affine.Same(z, api.Form{}) {
			t.Errorf("P17.1: %v less itself: %v", x, z)
		}
		if is := affine.Same(x, y); is != isSame(x, y) {
			t.Errorf("P17.1: Same(%v, %v): %v", x, y, is)
		}
	}
}

// P17.2

// checkRetold checks the form of each value of a function that is right, and of
// some numbers that are none's. It gives the forms.
func checkRetold(t *testing.T, f api.Func) map[int]api.Form {
	t.Helper()
	shapes := check.Shapes(f)
	again := &again{f: f, known: map[int]linear{}}
	forms := map[int]api.Form{}
	for v, shape := range shapes {
		if shape != [2]int{64, 1} {
			checkNone(t, f, v)
			continue
		}
		forms[v] = again.retold(v)
		checkFn(t, f, v, forms[v])
	}
	for _, v := range []int{-1, 0, 1, 5, 40, 150, 700, 1023, 1024} {
		if _, is := shapes[v]; !is {
			checkNone(t, f, v)
		}
	}
	return forms
}

func TestOfByChance(t *testing.T) {
	m := &maker{r: rand.New(rand.NewSource(171))}
	terms, itself := map[int]int{}, 0
	for i := range 600 {
		f := m.made(1+i%8, []int{4, 8, 30}[i%3])
		if check.Check(f, api.Lanes) != api.OK {
			continue
		}
		for v, x := range checkRetold(t, f) {
			terms[len(x.Terms)]++
			if isSame(x, form(0, uint64(v), 1)) {
				itself++
			}
		}
	}
	// Of all numbers of terms there are enough.
	if terms[0] < 1000 || terms[1] < 1000 || terms[2] < 1000 || terms[3] < 300 || terms[5] < 20 || itself < 1000 {
		t.Errorf("P17.2: too few of a kind: %v %v", terms, itself)
	}
}

// Sums of many values, so that many would have too many terms.
func TestGreatSumsByChance(t *testing.T) {
	r := rand.New(rand.NewSource(172))
	most, over := 0, 0
	for range 60 {
		f := api.Func{Params: []int{64}, Ret: 64, Blocks: []api.Block{{End: api.End{Kind: api.Ret, Arg: 1}}}}
		ops := &f.Blocks[0].Ops
		for v := 2; v < 30; v++ {
			*ops = append(*ops, api.Op{Kind: api.Load, Bits: 64, Lanes: 1, Dst: v, Args: []int{1}})
		}
		for v := 30; v < 150; v++ {
			does := []int{api.Add, api.Add, api.Sub, api.Sub, api.Mul}[max(r.Intn(20)-15, 0)]
			args := []int{v - 1 - r.Intn(4), 1 + r.Intn(v-1)}
			*ops = append(*ops, api.Op{Kind: does, Bits: 64, Lanes: 1, Dst: v, Args: args})
		}
		for v, x := range checkRetold(t, f) {
			switch {
			case len(x.Terms) == 16:
				most++
			case v >= 30 && (*ops)[v-2].Kind != api.Mul && isSame(x, form(0, uint64(v), 1)):
				over++
			}
		}
	}
	if most < 300 || over < 300 {
		t.Errorf("P17.2: too few of a kind: %v %v", most, over)
	}
}

// What isn't right has no forms, and nothing panics.
func TestChangedByChance(t *testing.T) {
	m := &maker{r: rand.New(rand.NewSource(173))}
	right, wrong := 0, 0
	for i := range 3000 {
		f := spared(m.made(1+i%6, 5))
		all := numbers(&f)
		one, other := all[m.r.Intn(len(all))], all[m.r.Intn(len(all))]
		if *one = *other; m.r.Intn(8) == 0 {
			*one = []int{-1, 0, 1, 2, 1024, 1 << 62}[m.r.Intn(6)]
		}
		if check.Check(f, api.Lanes) == api.OK {
			right++
			checkRetold(t, f)
			continue
		}
		wrong++
		checkNone(t, f, 0, 1, 2, 3, m.r.Intn(150), *one, *other)
		for _, d := range m.defs[:min(len(m.defs), 5)] {
			checkNone(t, f, d.v)
		}
	}
	if right < 300 || wrong < 300 {
		t.Errorf("P17.2: too few of a kind: %v %v", right, wrong)
	}
}

// P17.3

// teller is where values are told of in memory, behind all else.
const teller = api.MaxMem - 8

// telling gives a function that, wherever an operation has defined a value,
// writes that one and those of its form's terms, as they are then.
func telling(f api.Func, v int, x api.Form) api.Func {
	shapes := check.Shapes(f)
	at := 1
	for shapes[at] != [2]int{} {
		at++
	}
	extra := []api.Op{{Kind: api.Const, Bits: 64, Lanes: 1, Dst: at, Imm: teller}}
	put := func(v int) {
		extra = append(extra, api.Op{Kind: api.Store, Bits: 64, Lanes: 1, Args: []int{at, v}})
	}
	put(v)
	for _, t := range x.Terms {
		put(t.V)
	}
	f.Blocks = slices.Clone(f.Blocks)
	for b, k := range f.Blocks {
		if i := slices.IndexFunc(k.Ops, func(o api.Op) bool { return o.Dst == v }); i >= 0 {
			f.Blocks[b].Ops = slices.Concat(k.Ops[:i+1], extra, k.Ops[i+1:])
		}
	}
	return f
}

func ran(t *testing.T, f api.Func, args []uint64) []api.Touch {
	t.Helper()
	m, _ := mem.New(slices.Repeat([]byte{1, 200, 0, 7, 64, 0, 0, 0}, api.MaxMem/8))
	if _, e := eval.Run(f, args, m, 400); e != api.OK {
		t.Fatalf("P17.3: %v can't be run: %v", printed(f), e)
	}
	return m.Trace()
}

// isToldOf tells whether a byte is one of those that tell of values.
func isToldOf(x api.Touch) bool { return x.At >= teller }

// told gives the numbers that were told of.
func told(trace []api.Touch) []uint64 {
	var list []uint64
	var n, bytes uint64
	for _, x := range trace {
		if !isToldOf(x) {
			continue
		}
		n |= uint64(x.Byte) << (8 * bytes)
		if bytes++; bytes == 8 {
			list = append(list, n)
			n, bytes = 0, 0
		}
	}
	return list
}

// checkRun checks P17.3 of a value that an operation defines, in a run. It gives
// what the value was each time.
func checkRun(t *testing.T, f api.Func, v int, args []uint64) []uint64 {
	t.Helper()
	// What the function itself touches there would be mistaken for what tells.
	if slices.ContainsFunc(ran(t, f, args), isToldOf) {
		return nil
	}
	x, e := affine.Of(f, v)
	if e != api.OK {
		t.Fatalf("P17.3: Of(%v, %d): %v", printed(f), v, e)
	}
	g := telling(f, v, x)
	// Else a term isn't defined there.
	if e := check.Check(g, api.Lanes); e != api.OK {
		t.Fatalf("P17.3: Of(%v, %d): %v: %v", printed(f), v, x, e)
	}
	var was []uint64
	for list := told(ran(t, g, args)); len(list) > len(x.Terms); list = list[len(x.Terms)+1:] {
		values := make([]uint64, api.MaxValue+1)
		for i, term := range x.Terms {
			values[term.V] = list[i+1]
		}
		if n := comes(x, values); n != list[0] {
			t.Errorf("P17.3: Of(%v, %d): %v comes to %d, not %d", printed(f), v, x, n, list[0])
		}
		was = append(was, list[0])
	}
	return was
}

func TestRuns(t *testing.T) {
	// From p on by 8, seven times, and each time one more.
	f := fn(t, `block const 64 1 5 () 8 const 64 1 6 () 1 const 64 1 7 () 7 const 64 1 8 () 0 jump 0 (1)
		block phi 64 9 (0 1) (1 11) phi 64 10 (0 1) (8 12) add 64 1 11 (9 5) 0 add 64 1 12 (10 6) 0
		mul 64 1 13 (5 10) 0 sub 64 1 14 (9 13) 0 add 64 1 15 (14 2) 0 eq 64 1 16 (12 7) 0 if 16 (2 1)
		block sub 64 1 17 (15 2) 0 shl 64 1 18 (17 6) 0 ret 18 ()`)
	for v, want := range map[int][]uint64{
		5:  {8},
		11: {108, 116, 124, 132, 140, 148, 156},
		12: {1, 2, 3, 4, 5, 6, 7},
		13: {0, 8, 16, 24, 32, 40, 48},
		14: {100, 100, 100, 100, 100, 100, 100},
		15: {105, 105, 105, 105, 105, 105, 105},
		17: {100},
		18: {200},
	} {
		if list := checkRun(t, f, v, []uint64{100, 5, 0, 0}); !slices.Equal(list, want) {
			t.Errorf("P17.3: %d was %v, not %v", v, list, want)
		}
	}
	checkFn(t, f, 18, form(0, 9, 2, 10, top-15))
}

func TestRunsByChance(t *testing.T) {
	m := &maker{r: rand.New(rand.NewSource(174))}
	runs, again, changed := 0, 0, 0
	for i := range 200 {
		f := m.made(1+i%8, 8)
		if check.Check(f, api.Lanes) != api.OK {
			continue
		}
		var inputs [][]uint64
		for range 4 {
			args := make([]uint64, len(f.Params))
			for i := range args {
				args[i] = m.r.Uint64() >> m.r.Intn(64)
			}
			inputs = append(inputs, args)
		}
		for _, k := range f.Blocks {
			for _, o := range k.Ops {
				if x, e := affine.Of(f, o.Dst); e != api.OK || isSame(x, form(0, uint64(o.Dst), 1)) {
					continue
				}
				for _, args := range inputs {
					was := checkRun(t, f, o.Dst, args)
					runs += min(len(was), 1)
					again += min(len(was)/2, 1)
					changed += min(len(slices.Compact(was))/2, 1)
				}
			}
		}
	}
	// Enough were defined, more than once, and not as the same then.
	if runs < 5000 || again < 1000 || changed < 150 {
		t.Errorf("P17.3: too few of a kind: %d %d %d", runs, again, changed)
	}
}
