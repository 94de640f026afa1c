package kind_test

import (
	"math"
	"slices"
	"strings"
	"testing"

	"lockstep/api"
	"lockstep/kind"
)

// shapes are all that there are.
var shapes = [][2]int{
	{1, 1},
	{8, 1}, {8, 2}, {8, 4}, {8, 8}, {8, 16},
	{16, 1}, {16, 2}, {16, 4}, {16, 8},
	{32, 1}, {32, 2}, {32, 4},
	{64, 1}, {64, 2},
}

// someBits and someLanes are what may be, what lies beside it, and numbers so
// great that their product, or a part of their bits, would be taken for it.
var (
	someBits  = []int{math.MinInt, -64, -8, -1, 0, 1, 2, 4, 7, 8, 9, 16, 24, 31, 32, 33, 48, 63, 64, 65, 128, 256, 1 << 32, 1<<32 + 8, 1 << 62, math.MaxInt}
	someLanes = []int{math.MinInt, -2, -1, 0, 1, 2, 3, 4, 5, 6, 7, 8, 9, 12, 15, 16, 17, 32, 64, 128, 1 << 32, 1<<32 + 1, 1<<32 + 2, 1 << 61, 1 << 62, math.MaxInt}
	someImms  = []uint64{0, 1, 2, 3, 4, 7, 8, 9, 15, 16, 17, 31, 32, 33, 63, 64, 65, 127, 128, 255, 256, 1<<16 - 1, 1 << 16, 1<<32 - 1, 1 << 32, 1<<32 + 1, 1<<32 + 8, 1<<32 + 64, 1 << 63, 1<<63 + 8, math.MaxUint64 - 7, math.MaxUint64}
	noKinds   = []int{-1, -2, -api.Add, -api.Get, api.Get + 1, api.Get + 2, 64, 255, 256, 1 << 32, 1<<32 + api.Add, math.MaxInt, math.MinInt}
	noValues  = []int{0, -1, -2, -1023, 1024, 1025, 2048, 1 << 32, 1<<32 + 1, math.MaxInt, math.MinInt}
)

// rule is what the chapter says of a kind: what is taken and what is given, by
// words (b: of the width, one lane; bn: of the shape; 1, 64: of that width, one
// lane; imm: of the width that Imm is; n*b: as many of b as lanes); which
// lanes, and from which width on; and which numbers may stand in Imm.
type rule struct {
	kind         int
	takes, gives string
	lanes        string
	least        int
	imm          string
	pure         bool
}

var rules = []rule{
	{api.Const, "", "bn", "any", 1, "of the width", true},
	{api.Add, "bn bn", "bn", "any", 1, "0", true},
	{api.Sub, "bn bn", "bn", "any", 1, "0", true},
	{api.Mul, "bn bn", "bn", "any", 1, "0", true},
	{api.Div, "bn bn", "bn", "one", 1, "0", false},
	{api.And, "bn bn", "bn", "any", 1, "0", true},
	{api.Or, "bn bn", "bn", "any", 1, "0", true},
	{api.Xor, "bn bn", "bn", "any", 1, "0", true},
	{api.Shl, "bn bn", "bn", "any", 1, "0", true},
	{api.Shr, "bn bn", "bn", "any", 1, "0", true},
	{api.Eq, "b b", "1", "one", 1, "0", true},
	{api.Ult, "b b", "1", "one", 1, "0", true},
	{api.Slt, "b b", "1", "one", 1, "0", true},
	{api.Select, "1 bn bn", "bn", "any", 1, "0", true},
	{api.Zext, "imm", "b", "one", 1, "lesser width", true},
	{api.Trunc, "imm", "b", "one", 1, "greater width", true},
	{api.Load, "64", "bn", "any", 8, "0", false},
	{api.Store, "64 bn", "", "any", 8, "0", false},
	{api.Pload, "1 64 b", "b", "one", 8, "0", false},
	{api.Pstore, "1 64 b", "", "one", 8, "0", false},
	{api.Pdiv, "1 b b b", "b", "one", 1, "0", false},
	{api.Pack, "n*b", "bn", "many", 1, "0", true},
	{api.Get, "bn", "b", "many", 1, "lane", true},
}

// mean is the shapes that words of a rule mean.
func mean(words string, bits, lanes int, imm uint64) [][2]int {
	var l [][2]int
	for _, w := range strings.Fields(words) {
		switch w {
		case "b":
			l = append(l, [2]int{bits, 1})
		case "bn":
			l = append(l, [2]int{bits, lanes})
		case "1":
			l = append(l, [2]int{1, 1})
		case "64":
			l = append(l, [2]int{64, 1})
		case "imm":
			l = append(l, [2]int{int(imm), 1})
		case "n*b":
			for range lanes {
				l = append(l, [2]int{bits, 1})
			}
		}
	}
	return l
}

// wantHead is whether kind, shape and Imm may be together.
func (r rule) wantHead(bits, lanes int, imm uint64) bool {
	if !slices.Contains(shapes, [2]int{bits, lanes}) || bits < r.least {
		return false
	}
	if r.lanes == "one" && lanes != 1 || r.lanes == "many" && lanes == 1 {
		return false
	}
	width := slices.Contains([]uint64{1, 8, 16, 32, 64}, imm)
	switch r.imm {
	case "of the width":
		return bits == 64 || imm < 1<<bits
	case "lesser width":
		return width && imm < uint64(bits)
	case "greater width":
		return width && imm > uint64(bits)
	case "lane":
		return imm < uint64(lanes)
	}
	return imm == 0
}

// numbers are n values' numbers.
func numbers(n int) []int {
	var l []int
	for i := range n {
		l = append(l, 700+i)
	}
	return l
}

// right calls do with an operation of each kind, shape and number that may be.
func right(do func(r rule, o api.Op, takes [][2]int)) {
	for _, r := range rules {
		for _, s := range shapes {
			for _, imm := range someImms {
				if !r.wantHead(s[0], s[1], imm) {
					continue
				}
				takes := mean(r.takes, s[0], s[1], imm)
				o := api.Op{Kind: r.kind, Bits: s[0], Lanes: s[1], Dst: 5, Args: numbers(len(takes)), Imm: imm}
				if r.gives == "" {
					o.Dst = 0
				}
				do(r, o, takes)
			}
		}
	}
}

func checkMay(t *testing.T, o api.Op, takes [][2]int, bits, lanes int) {
	t.Helper()
	if !kind.May(o) {
		t.Errorf("P3.1: %v may not be", o)
	}
	if l := kind.Takes(o); !slices.Equal(l, takes) {
		t.Errorf("P3.1: %v takes %v, not %v", o, l, takes)
	}
	if b, n := kind.Gives(o); b != bits || n != lanes {
		t.Errorf("P3.1: %v gives %d, %d, not %d, %d", o, b, n, bits, lanes)
	}
}

func checkMayNot(t *testing.T, o api.Op) {
	t.Helper()
	if kind.May(o) {
		t.Errorf("P3.1: %v may be", o)
	}
	if l := kind.Takes(o); len(l) != 0 {
		t.Errorf("P3.1: %v, that may not be, takes %v", o, l)
	}
	if b, n := kind.Gives(o); b != 0 || n != 0 {
		t.Errorf("P3.1: %v, that may not be, gives %d, %d", o, b, n)
	}
}

// P3.1

func TestShapeTellsShapes(t *testing.T) {
	for _, s := range shapes {
		if !kind.Shape(s[0], s[1]) {
			t.Errorf("P3.1: %v is no shape", s)
		}
	}
	n := 0
	for bits := -300; bits <= 300; bits++ {
		for lanes := -40; lanes <= 40; lanes++ {
			if kind.Shape(bits, lanes) {
				n++
			}
		}
	}
	if n != len(shapes) {
		t.Errorf("P3.1: there are %d shapes", n)
	}
	for _, bits := range someBits {
		for _, lanes := range someLanes {
			if kind.Shape(bits, lanes) != slices.Contains(shapes, [2]int{bits, lanes}) {
				t.Errorf("P3.1: Shape(%d, %d) is %v", bits, lanes, kind.Shape(bits, lanes))
			}
		}
	}
}

func TestOperationsByHand(t *testing.T) {
	for _, c := range []struct {
		o           api.Op
		takes       [][2]int
		bits, lanes int
	}{
		{api.Op{Kind: api.Const, Bits: 1, Lanes: 1, Dst: 1, Imm: 1}, nil, 1, 1},
		{api.Op{Kind: api.Const, Bits: 64, Lanes: 2, Dst: 1023, Imm: math.MaxUint64}, nil, 64, 2},
		{api.Op{Kind: api.Const, Bits: 8, Lanes: 16, Dst: 1, Args: []int{}}, nil, 8, 16},
		{api.Op{Kind: api.Add, Bits: 8, Lanes: 16, Dst: 1, Args: []int{2, 3}}, [][2]int{{8, 16}, {8, 16}}, 8, 16},
		{api.Op{Kind: api.Shr, Bits: 1, Lanes: 1, Dst: 1, Args: []int{1, 1}}, [][2]int{{1, 1}, {1, 1}}, 1, 1},
		{api.Op{Kind: api.Mul, Bits: 32, Lanes: 4, Dst: 1, Args: []int{1023, 1}}, [][2]int{{32, 4}, {32, 4}}, 32, 4},
		{api.Op{Kind: api.Div, Bits: 16, Lanes: 1, Dst: 1, Args: []int{2, 3}}, [][2]int{{16, 1}, {16, 1}}, 16, 1},
		{api.Op{Kind: api.Eq, Bits: 64, Lanes: 1, Dst: 1, Args: []int{2, 3}}, [][2]int{{64, 1}, {64, 1}}, 1, 1},
		{api.Op{Kind: api.Ult, Bits: 1, Lanes: 1, Dst: 1, Args: []int{2, 3}}, [][2]int{{1, 1}, {1, 1}}, 1, 1},
		{api.Op{Kind: api.Select, Bits: 1, Lanes: 1, Dst: 1, Args: []int{2, 3, 4}}, [][2]int{{1, 1}, {1, 1}, {1, 1}}, 1, 1},
		{api.Op{Kind: api.Select, Bits: 64, Lanes: 2, Dst: 1, Args: []int{2, 3, 4}}, [][2]int{{1, 1}, {64, 2}, {64, 2}}, 64, 2},
		{api.Op{Kind: api.Zext, Bits: 8, Lanes: 1, Dst: 1, Args: []int{2}, Imm: 1}, [][2]int{{1, 1}}, 8, 1},
		{api.Op{Kind: api.Zext, Bits: 64, Lanes: 1, Dst: 1, Args: []int{2}, Imm: 32}, [][2]int{{32, 1}}, 64, 1},
		{api.Op{Kind: api.Trunc, Bits: 1, Lanes: 1, Dst: 1, Args: []int{2}, Imm: 64}, [][2]int{{64, 1}}, 1, 1},
		{api.Op{Kind: api.Trunc, Bits: 32, Lanes: 1, Dst: 1, Args: []int{2}, Imm: 64}, [][2]int{{64, 1}}, 32, 1},
		{api.Op{Kind: api.Load, Bits: 8, Lanes: 1, Dst: 1, Args: []int{2}}, [][2]int{{64, 1}}, 8, 1},
		{api.Op{Kind: api.Load, Bits: 16, Lanes: 8, Dst: 1, Args: []int{2}}, [][2]int{{64, 1}}, 16, 8},
		{api.Op{Kind: api.Store, Bits: 8, Lanes: 16, Args: []int{2, 3}}, [][2]int{{64, 1}, {8, 16}}, 0, 0},
		{api.Op{Kind: api.Pload, Bits: 32, Lanes: 1, Dst: 1, Args: []int{2, 3, 4}}, [][2]int{{1, 1}, {64, 1}, {32, 1}}, 32, 1},
		{api.Op{Kind: api.Pstore, Bits: 64, Lanes: 1, Args: []int{2, 3, 4}}, [][2]int{{1, 1}, {64, 1}, {64, 1}}, 0, 0},
		{api.Op{Kind: api.Pdiv, Bits: 1, Lanes: 1, Dst: 1, Args: []int{2, 3, 4, 5}}, [][2]int{{1, 1}, {1, 1}, {1, 1}, {1, 1}}, 1, 1},
		{api.Op{Kind: api.Pack, Bits: 32, Lanes: 4, Dst: 1, Args: []int{2, 3, 2, 3}}, [][2]int{{32, 1}, {32, 1}, {32, 1}, {32, 1}}, 32, 4},
		{api.Op{Kind: api.Get, Bits: 8, Lanes: 16, Dst: 1, Args: []int{2}, Imm: 15}, [][2]int{{8, 16}}, 8, 1},
	} {
		checkMay(t, c.o, c.takes, c.bits, c.lanes)
	}
}

func TestWrongOperationsByHand(t *testing.T) {
	for _, o := range []api.Op{
		{},
		{Kind: api.Const, Bits: 1, Lanes: 1, Dst: 1, Imm: 2},
		{Kind: api.Const, Bits: 32, Lanes: 4, Dst: 1, Imm: 1 << 32},
		{Kind: api.Const, Bits: 1, Lanes: 2, Dst: 1},
		{Kind: api.Const, Bits: 8, Lanes: 1, Dst: 1, Args: []int{1}},
		{Kind: api.Add, Bits: 16, Lanes: 16, Dst: 1, Args: []int{2, 3}},
		{Kind: api.Add, Bits: 1, Lanes: 2, Dst: 1, Args: []int{2, 3}},
		{Kind: api.Add, Bits: 8, Lanes: 3, Dst: 1, Args: []int{2, 3}},
		{Kind: api.Add, Bits: 8, Lanes: 1, Dst: 1, Args: []int{2, 3}, Imm: 1},
		{Kind: api.Div, Bits: 8, Lanes: 2, Dst: 1, Args: []int{2, 3}},
		{Kind: api.Eq, Bits: 8, Lanes: 2, Dst: 1, Args: []int{2, 3}},
		{Kind: api.Ult, Bits: 8, Lanes: 2, Dst: 1, Args: []int{2, 3}},
		{Kind: api.Zext, Bits: 8, Lanes: 1, Dst: 1, Args: []int{2}, Imm: 8},
		{Kind: api.Zext, Bits: 8, Lanes: 1, Dst: 1, Args: []int{2}, Imm: 0},
		{Kind: api.Zext, Bits: 8, Lanes: 1, Dst: 1, Args: []int{2}, Imm: 7},
		{Kind: api.Zext, Bits: 16, Lanes: 2, Dst: 1, Args: []int{2}, Imm: 8},
		{Kind: api.Trunc, Bits: 8, Lanes: 1, Dst: 1, Args: []int{2}, Imm: 8},
		{Kind: api.Trunc, Bits: 8, Lanes: 1, Dst: 1, Args: []int{2}, Imm: 65},
		{Kind: api.Trunc, Bits: 8, Lanes: 1, Dst: 1, Args: []int{2}, Imm: 1<<32 + 16},
		{Kind: api.Trunc, Bits: 8, Lanes: 2, Dst: 1, Args: []int{2}, Imm: 16},
		{Kind: api.Load, Bits: 1, Lanes: 1, Dst: 1, Args: []int{2}},
		{Kind: api.Store, Bits: 8, Lanes: 1, Dst: 1, Args: []int{2, 3}},
		{Kind: api.Pload, Bits: 1, Lanes: 1, Dst: 1, Args: []int{2, 3, 4}},
		{Kind: api.Pload, Bits: 8, Lanes: 2, Dst: 1, Args: []int{2, 3, 4}},
		{Kind: api.Pstore, Bits: 1, Lanes: 1, Args: []int{2, 3, 4}},
		{Kind: api.Pstore, Bits: 8, Lanes: 2, Args: []int{2, 3, 4}},
		{Kind: api.Pdiv, Bits: 8, Lanes: 2, Dst: 1, Args: []int{2, 3, 4, 5}},
		{Kind: api.Pack, Bits: 8, Lanes: 1, Dst: 1, Args: []int{2}},
		{Kind: api.Pack, Bits: 8, Lanes: 4, Dst: 1, Args: []int{2, 3}},
		{Kind: api.Get, Bits: 8, Lanes: 1, Dst: 1, Args: []int{2}},
		{Kind: api.Get, Bits: 8, Lanes: 4, Dst: 1, Args: []int{2}, Imm: 4},
	} {
		checkMayNot(t, o)
	}
}

func TestEveryKindShapeAndNumber(t *testing.T) {
	for _, r := range rules {
		for _, bits := range someBits {
			for _, lanes := range someLanes {
				for _, imm := range someImms {
					checkHead(t, r, bits, lanes, imm)
				}
			}
		}
	}
}

// checkHead asks of a kind, shape and number with all that is taken, or, where
// they may not be together, with what might be taken for it.
func checkHead(t *testing.T, r rule, bits, lanes int, imm uint64) {
	t.Helper()
	o := api.Op{Kind: r.kind, Bits: bits, Lanes: lanes, Dst: 5, Imm: imm}
	if r.gives == "" {
		o.Dst = 0
	}
	if !r.wantHead(bits, lanes, imm) {
		for n := range 5 {
			o.Args = numbers(n)
			checkMayNot(t, o)
		}
		return
	}
	takes := mean(r.takes, bits, lanes, imm)
	gives := append(mean(r.gives, bits, lanes, imm), [2]int{})[0]
	o.Args = numbers(len(takes))
	checkMay(t, o, takes, gives[0], gives[1])
}

func TestWhatIsNoKind(t *testing.T) {
	for _, k := range noKinds {
		for _, s := range shapes {
			for _, dst := range []int{0, 5} {
				for _, imm := range []uint64{0, 1, 16} {
					for n := range 5 {
						checkMayNot(t, api.Op{Kind: k, Bits: s[0], Lanes: s[1], Dst: dst, Args: numbers(n), Imm: imm})
					}
				}
			}
		}
	}
}

func TestHowManyArguments(t *testing.T) {
	right(func(r rule, o api.Op, takes [][2]int) {
		for _, n := range []int{0, 1, 2, 3, 4, 5, 7, 8, 9, 15, 16, 17, 64, 1000} {
			if n != len(takes) {
				o.Args = numbers(n)
				for i := range o.Args {
					o.Args[i] = i%api.MaxValue + 1
				}
				checkMayNot(t, o)
			}
		}
	})
}

func TestArgumentsAreValuesNumbers(t *testing.T) {
	right(func(r rule, o api.Op, takes [][2]int) {
		gives := append(mean(r.gives, o.Bits, o.Lanes, o.Imm), [2]int{})[0]
		for i := range o.Args {
			old := o.Args[i]
			for _, v := range []int{1, 2, 5, api.MaxValue - 1, api.MaxValue} {
				o.Args[i] = v
				checkMay(t, o, takes, gives[0], gives[1])
			}
			for _, v := range noValues {
				o.Args[i] = v
				checkMayNot(t, o)
			}
			o.Args[i] = old
		}
	})
}

func TestDstIsAValuesNumberJustIfSomethingIsGiven(t *testing.T) {
	right(func(r rule, o api.Op, takes [][2]int) {
		gives := append(mean(r.gives, o.Bits, o.Lanes, o.Imm), [2]int{})[0]
		some := []int{1, 2, api.MaxValue - 1, api.MaxValue}
		for _, dst := range append(some, noValues...) {
			o.Dst = dst
			if r.gives == "" && dst == 0 || r.gives != "" && slices.Contains(some, dst) {
				checkMay(t, o, takes, gives[0], gives[1])
			} else {
				checkMayNot(t, o)
			}
		}
	})
}

func TestNothingHandedInIsChangedOrShared(t *testing.T) {
	right(func(r rule, o api.Op, takes [][2]int) {
		args := append(slices.Clone(o.Args), 9, 9, 9)
		o.Args = args[:len(takes)]
		before := slices.Clone(args)
		first, second := kind.Takes(o), kind.Takes(o)
		kind.May(o)
		kind.Gives(o)
		kind.Same(o, o)
		if !slices.Equal(args, before) {
			t.Errorf("P3.1: the arguments of %v became %v", o, args)
		}
		for i := range first {
			first[i] = [2]int{77, 77}
		}
		_ = append(first[:len(first):cap(first)], [2]int{66, 66})
		if !slices.Equal(second, takes) || !slices.Equal(kind.Takes(o), takes) {
			t.Errorf("P3.1: what %v takes is shared", o)
		}
	})
}

// P3.2

func TestPureTellsKinds(t *testing.T) {
	for _, r := range rules {
		if kind.Pure(r.kind) != r.pure {
			t.Errorf("P3.2: Pure(%d) is %v", r.kind, kind.Pure(r.kind))
		}
	}
	for _, k := range noKinds {
		if kind.Pure(k) {
			t.Errorf("P3.2: Pure(%d) is true", k)
		}
	}
	n := 0
	for k := -1000; k <= 1000; k++ {
		if kind.Pure(k) {
			n++
		}
	}
	if n != 17 {
		t.Errorf("P3.2: %d kinds are pure", n)
	}
}

func checkSame(t *testing.T, a, b api.Op, want bool) {
	t.Helper()
	if kind.Same(a, b) != want || kind.Same(b, a) != want {
		t.Errorf("P3.2: Same(%v, %v) is %v, and turned round %v", a, b, kind.Same(a, b), kind.Same(b, a))
	}
}

func TestSameIsSameInAll(t *testing.T) {
	whole := api.Op{Kind: api.Get, Bits: 8, Lanes: 4, Dst: 7, Args: []int{3}, Imm: 2}
	// What doesn't look right is held against others like anything else.
	wrong := api.Op{Kind: -3, Bits: 7, Lanes: 99, Dst: -1, Args: []int{0, -5, 4000}, Imm: math.MaxUint64}
	for _, o := range []api.Op{{}, whole, wrong} {
		other := o
		other.Args = slices.Clone(o.Args)
		checkSame(t, o, other, true)
		for _, change := range []func(o *api.Op){
			func(o *api.Op) { o.Kind++ },
			func(o *api.Op) { o.Bits++ },
			func(o *api.Op) { o.Lanes++ },
			func(o *api.Op) { o.Dst++ },
			func(o *api.Op) { o.Imm++ },
			func(o *api.Op) { o.Imm ^= 1 << 63 },
			func(o *api.Op) { o.Args = append(slices.Clone(o.Args), 0) },
			func(o *api.Op) { o.Args = append([]int{0}, o.Args...) },
		} {
			other := o
			change(&other)
			checkSame(t, o, other, false)
		}
	}
}

func TestSameOfArguments(t *testing.T) {
	of := func(args ...int) api.Op {
		return api.Op{Kind: api.Add, Bits: 8, Lanes: 1, Dst: 7, Args: args}
	}
	checkSame(t, of(), api.Op{Kind: api.Add, Bits: 8, Lanes: 1, Dst: 7, Args: []int{}}, true)
	checkSame(t, of(1, 2), of(1, 2), true)
	checkSame(t, of(1, 2), of(2, 1), false)
	checkSame(t, of(1, 2), of(1, 3), false)
	checkSame(t, of(1, 2), of(3, 2), false)
	checkSame(t, of(1, 2), of(1), false)
	checkSame(t, of(1, 2), of(1, 2, 2), false)
	checkSame(t, of(1), of(), false)
	// Behind the end of a list nothing is looked at.
	l := []int{1, 2, 3, 4}
	checkSame(t, of(l[:2]...), of(1, 2), true)
	checkSame(t, of(l[:2:2]...), of(l[:2]...), true)
}
