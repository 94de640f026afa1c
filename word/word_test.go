package word_test

import (
	"math"
	"math/big"
	"testing"

	"lockstep/api"
	"lockstep/word"
)

var widths = []int{1, 8, 16, 32, 64}

// noWidths are what a width might be taken for, and numbers so great that a
// shift by them, or by what they are less than 64, would go wrong.
var noWidths = []int{0, -1, -8, -64, 2, 3, 4, 7, 9, 15, 17, 24, 31, 33, 48, 63, 65, 72, 128, 256 + 8, 1 << 32, 1<<32 + 8, math.MaxInt, math.MinInt}

var kindsOfTwo = []int{api.Add, api.Sub, api.Mul, api.Div, api.And, api.Or, api.Xor, api.Shl, api.Shr, api.Eq, api.Ult, api.Slt}

var noKindsOfTwo = []int{api.Const, api.Select, api.Zext, api.Trunc, api.Load, api.Store, api.Pload, api.Pstore, api.Pdiv, api.Pack, api.Get, api.Get + 1, -1, -api.Add, 1 << 32, 1<<32 + api.Add, math.MaxInt, math.MinInt}

// edges are the numbers about which something turns at one of the widths.
func edges() []uint64 {
	l := []uint64{0, 1, 2, 3, 5, 7, 10, 100, 200, 0x5555555555555555, 0xaaaaaaaaaaaaaaaa, 0x0123456789abcdef, 0xfedcba9876543210}
	for _, w := range []int{1, 3, 4, 5, 6, 7, 8, 9, 15, 16, 17, 31, 32, 33, 62, 63} {
		p := uint64(1) << w
		l = append(l, p-1, p, p+1, -p)
	}
	return append(l, math.MaxUint64-1, math.MaxUint64)
}

// power is 2^n, of any n.
func power(n int) *big.Int { return new(big.Int).Lsh(big.NewInt(1), uint(n)) }

// wantCut is v modulo 2^bits, worked out by numbers without a width.
func wantCut(v *big.Int, bits int) *big.Int {
	return new(big.Int).Mod(v, power(bits))
}

func wantSigned(v *big.Int, bits int) *big.Int {
	c := wantCut(v, bits)
	if c.Bit(bits-1) == 1 {
		c.Sub(c, power(bits))
	}
	return c
}

func number(so bool) *big.Int {
	if so {
		return big.NewInt(1)
	}
	return new(big.Int)
}

// wantTwo is what a kind comes to, by numbers without a width; of Div b isn't 0.
func wantTwo(kind, bits int, a, b uint64) uint64 {
	x := wantCut(new(big.Int).SetUint64(a), bits)
	y := wantCut(new(big.Int).SetUint64(b), bits)
	short := y.Cmp(big.NewInt(int64(bits))) < 0
	z := new(big.Int)
	switch kind {
	case api.Add:
		z.Add(x, y)
	case api.Sub:
		z.Sub(x, y)
	case api.Mul:
		z.Mul(x, y)
	case api.Div:
		z.Quo(x, y)
	case api.And:
		z.And(x, y)
	case api.Or:
		z.Or(x, y)
	case api.Xor:
		z.Xor(x, y)
	case api.Shl:
		if short {
			z.Mul(x, power(int(y.Int64())))
		}
	case api.Shr:
		if short {
			z.Quo(x, power(int(y.Int64())))
		}
	case api.Eq:
		z = number(x.Cmp(y) == 0)
	case api.Ult:
		z = number(x.Cmp(y) < 0)
	case api.Slt:
		z = number(wantSigned(x, bits).Cmp(wantSigned(y, bits)) < 0)
	}
	return wantCut(z, bits).Uint64()
}

func checkDo(t *testing.T, kind, bits int, a, b uint64) {
	t.Helper()
	v, e := word.Do(kind, bits, a, b)
	if kind == api.Div && word.Cut(b, bits) == 0 {
		if v != 0 || e != api.Trapped {
			t.Fatalf("P1.2: Do(%d, %d, %d, %d) is %d, %d, not 0, Trapped", kind, bits, a, b, v, e)
		}
		return
	}
	if want := wantTwo(kind, bits, a, b); v != want || e != api.OK {
		t.Fatalf("P1.2: Do(%d, %d, %d, %d) is %d, %d, not %d, OK", kind, bits, a, b, v, e, want)
	}
}

// P1.1

func TestMayTellsWidths(t *testing.T) {
	for _, w := range widths {
		if !word.May(w) {
			t.Errorf("P1.1: %d is no width", w)
		}
	}
	for _, w := range noWidths {
		if word.May(w) {
			t.Errorf("P1.1: %d is a width", w)
		}
	}
	n := 0
	for w := -1000; w <= 1000; w++ {
		if word.May(w) {
			n++
		}
	}
	if n != len(widths) {
		t.Errorf("P1.1: there are %d widths from -1000 to 1000", n)
	}
}

func TestCutAndSignedByHand(t *testing.T) {
	for _, c := range []struct {
		v      uint64
		bits   int
		cut    uint64
		signed int64
	}{
		{0, 1, 0, 0}, {1, 1, 1, -1}, {2, 1, 0, 0}, {math.MaxUint64, 1, 1, -1},
		{100, 8, 100, 100}, {127, 8, 127, 127}, {128, 8, 128, -128}, {200, 8, 200, -56}, {255, 8, 255, -1}, {256, 8, 0, 0}, {300, 8, 44, 44}, {0xff80, 8, 128, -128},
		{0x7fff, 16, 0x7fff, 32767}, {0x8000, 16, 0x8000, -32768}, {0x10000, 16, 0, 0},
		{1<<31 - 1, 32, 1<<31 - 1, math.MaxInt32}, {1 << 31, 32, 1 << 31, math.MinInt32}, {1<<32 + 1, 32, 1, 1},
		{1<<63 - 1, 64, 1<<63 - 1, math.MaxInt64}, {1 << 63, 64, 1 << 63, math.MinInt64}, {math.MaxUint64, 64, math.MaxUint64, -1},
	} {
		if v := word.Cut(c.v, c.bits); v != c.cut {
			t.Errorf("P1.1: Cut(%d, %d) is %d, not %d", c.v, c.bits, v, c.cut)
		}
		if v := word.Signed(c.v, c.bits); v != c.signed {
			t.Errorf("P1.1: Signed(%d, %d) is %d, not %d", c.v, c.bits, v, c.signed)
		}
	}
}

func TestCutAndSignedOfEdges(t *testing.T) {
	for _, w := range widths {
		for _, v := range edges() {
			x := new(big.Int).SetUint64(v)
			if c, want := word.Cut(v, w), wantCut(x, w).Uint64(); c != want {
				t.Errorf("P1.1: Cut(%d, %d) is %d, not %d", v, w, c, want)
			}
			if s, want := word.Signed(v, w), wantSigned(x, w).Int64(); s != want {
				t.Errorf("P1.1: Signed(%d, %d) is %d, not %d", v, w, s, want)
			}
		}
	}
}

func TestCutAndSignedOfNoWidth(t *testing.T) {
	for _, w := range noWidths {
		for _, v := range edges() {
			if c := word.Cut(v, w); c != 0 {
				t.Errorf("P1.1: Cut(%d, %d) is %d", v, w, c)
			}
			if s := word.Signed(v, w); s != 0 {
				t.Errorf("P1.1: Signed(%d, %d) is %d", v, w, s)
			}
		}
	}
}

func TestTwoTellsKindsAndWidths(t *testing.T) {
	for _, k := range kindsOfTwo {
		for _, w := range widths {
			if !word.Two(k, w) {
				t.Errorf("P1.1: Two(%d, %d) is false", k, w)
			}
		}
		for _, w := range noWidths {
			if word.Two(k, w) {
				t.Errorf("P1.1: Two(%d, %d) is true", k, w)
			}
		}
	}
	for _, k := range noKindsOfTwo {
		for _, w := range append(widths[:len(widths):len(widths)], noWidths...) {
			if word.Two(k, w) {
				t.Errorf("P1.1: Two(%d, %d) is true", k, w)
			}
		}
	}
}

// P1.2

func TestDoByHand(t *testing.T) {
	for _, c := range []struct {
		kind, bits int
		a, b, v    uint64
	}{
		{api.Add, 8, 200, 100, 44}, {api.Add, 1, 1, 1, 0}, {api.Add, 64, math.MaxUint64, 1, 0}, {api.Add, 16, 65535, 65535, 65534},
		{api.Sub, 8, 0, 1, 255}, {api.Sub, 64, 0, 1, math.MaxUint64}, {api.Sub, 32, 5, 3, 2},
		{api.Mul, 8, 16, 16, 0}, {api.Mul, 16, 300, 300, 24464}, {api.Mul, 64, 1 << 63, 3, 1 << 63},
		{api.Div, 8, 200, 7, 28}, {api.Div, 8, 255, 128, 1}, {api.Div, 64, math.MaxUint64, 2, 1<<63 - 1}, {api.Div, 1, 1, 1, 1}, {api.Div, 8, 3, 5, 0},
		{api.And, 8, 12, 10, 8}, {api.Or, 8, 12, 10, 14}, {api.Xor, 8, 12, 10, 6},
		{api.Shl, 8, 3, 7, 128}, {api.Shl, 8, 3, 8, 0}, {api.Shl, 8, 1, 255, 0}, {api.Shl, 8, 1, 256, 1}, {api.Shl, 1, 1, 0, 1}, {api.Shl, 1, 1, 1, 0}, {api.Shl, 64, 1, 63, 1 << 63}, {api.Shl, 64, 1, 64, 0}, {api.Shl, 64, 1, math.MaxUint64, 0},
		{api.Shr, 8, 255, 7, 1}, {api.Shr, 8, 255, 8, 0}, {api.Shr, 8, 0x1ff, 1, 127}, {api.Shr, 1, 1, 1, 0}, {api.Shr, 32, 1 << 31, 31, 1}, {api.Shr, 32, 1 << 31, 32, 0}, {api.Shr, 64, 1 << 63, 63, 1}, {api.Shr, 64, 1 << 63, 64, 0},
		{api.Eq, 8, 256, 0, 1}, {api.Eq, 16, 256, 0, 0}, {api.Eq, 64, 7, 7, 1},
		{api.Ult, 8, 200, 100, 0}, {api.Ult, 8, 100, 200, 1}, {api.Ult, 8, 5, 5, 0}, {api.Ult, 1, 0, 1, 1}, {api.Ult, 8, 255, 256, 0},
		{api.Slt, 8, 200, 100, 1}, {api.Slt, 8, 100, 200, 0}, {api.Slt, 8, 5, 5, 0}, {api.Slt, 1, 1, 0, 1}, {api.Slt, 1, 0, 1, 0}, {api.Slt, 64, 1 << 63, 0, 1}, {api.Slt, 16, 128, 0, 0},
	} {
		if v, e := word.Do(c.kind, c.bits, c.a, c.b); v != c.v || e != api.OK {
			t.Errorf("P1.2: Do(%d, %d, %d, %d) is %d, %d, not %d, OK", c.kind, c.bits, c.a, c.b, v, e, c.v)
		}
	}
}

func TestDoOfAllBytes(t *testing.T) {
	for _, k := range kindsOfTwo {
		for a := range uint64(256) {
			for b := range uint64(256) {
				checkDo(t, k, 8, a, b)
			}
		}
	}
}

func TestDoOfEdges(t *testing.T) {
	for _, k := range kindsOfTwo {
		for _, w := range widths {
			for _, a := range edges() {
				for _, b := range edges() {
					checkDo(t, k, w, a, b)
				}
			}
		}
	}
}

func TestDoOfEachShift(t *testing.T) {
	for _, k := range []int{api.Shl, api.Shr} {
		for _, w := range widths {
			for n := range uint64(300) {
				for _, a := range []uint64{1, math.MaxUint64, 0x123456789abcdef1} {
					checkDo(t, k, w, a, n)
				}
			}
		}
	}
}

func TestDivByNothingTraps(t *testing.T) {
	for _, c := range []struct {
		bits int
		b    uint64
	}{{1, 0}, {1, 2}, {8, 0}, {8, 256}, {8, 512}, {16, 1 << 16}, {32, 1 << 32}, {64, 0}} {
		for _, a := range []uint64{0, 1, math.MaxUint64} {
			if v, e := word.Do(api.Div, c.bits, a, c.b); v != 0 || e != api.Trapped {
				t.Errorf("P1.2: Do(Div, %d, %d, %d) is %d, %d", c.bits, a, c.b, v, e)
			}
		}
	}
}

func TestDoOfWrongArguments(t *testing.T) {
	wrong := func(k, w int) {
		for _, b := range []uint64{0, 1, 7} {
			if v, e := word.Do(k, w, 9, b); v != 0 || e != api.Arg {
				t.Errorf("P1.2: Do(%d, %d, 9, %d) is %d, %d, not 0, Arg", k, w, b, v, e)
			}
		}
	}
	for _, k := range kindsOfTwo {
		for _, w := range noWidths {
			wrong(k, w)
		}
	}
	for _, k := range noKindsOfTwo {
		for _, w := range append(widths[:len(widths):len(widths)], noWidths...) {
			wrong(k, w)
		}
	}
}

func TestZextAndTruncOfWidths(t *testing.T) {
	for _, from := range widths {
		for _, to := range widths {
			for _, v := range edges() {
				x := new(big.Int).SetUint64(v)
				z, e := word.Zext(v, from, to)
				if to > from && (z != wantCut(x, from).Uint64() || e != api.OK) || to <= from && (z != 0 || e != api.Arg) {
					t.Errorf("P1.2: Zext(%d, %d, %d) is %d, %d", v, from, to, z, e)
				}
				z, e = word.Trunc(v, from, to)
				if to < from && (z != wantCut(x, to).Uint64() || e != api.OK) || to >= from && (z != 0 || e != api.Arg) {
					t.Errorf("P1.2: Trunc(%d, %d, %d) is %d, %d", v, from, to, z, e)
				}
			}
		}
	}
}

func TestZextAndTruncOfNoWidths(t *testing.T) {
	wrong := func(from, to int) {
		if v, e := word.Zext(5, from, to); v != 0 || e != api.Arg {
			t.Errorf("P1.2: Zext(5, %d, %d) is %d, %d", from, to, v, e)
		}
		if v, e := word.Trunc(5, from, to); v != 0 || e != api.Arg {
			t.Errorf("P1.2: Trunc(5, %d, %d) is %d, %d", from, to, v, e)
		}
	}
	for _, n := range noWidths {
		for _, w := range widths {
			wrong(n, w)
			wrong(w, n)
		}
		for _, m := range noWidths {
			wrong(n, m)
		}
	}
}

// P1.3

func TestWhatFollows(t *testing.T) {
	do := func(k, w int, a, b uint64) uint64 {
		v, e := word.Do(k, w, a, b)
		if e != api.OK {
			t.Fatalf("P1.3: Do(%d, %d, %d, %d): %d", k, w, a, b, e)
		}
		if word.Cut(v, w) != v || k >= api.Eq && v > 1 {
			t.Fatalf("P1.3: Do(%d, %d, %d, %d) is %d", k, w, a, b, v)
		}
		return v
	}
	for _, w := range widths {
		for _, a := range edges() {
			for _, b := range edges() {
				for _, k := range kindsOfTwo {
					if k != api.Div {
						do(k, w, a, b)
					}
				}
				x, y := word.Cut(a, w), word.Cut(b, w)
				if do(api.Sub, w, do(api.Add, w, a, b), b) != x || do(api.Add, w, do(api.Sub, w, a, b), b) != x {
					t.Fatalf("P1.3: Add and Sub of %d and %d, width %d", a, b, w)
				}
				if y == 0 {
					continue
				}
				if p := do(api.Div, w, a, b) * y; p > x || x-p >= y {
					t.Fatalf("P1.3: Div of %d and %d, width %d", a, b, w)
				}
			}
		}
	}
}
