package alias_test

import (
	"math"
	"slices"
	"strings"
	"testing"

	"lockstep/alias"
	"lockstep/api"
	"lockstep/check"
	"lockstep/text"
)

// fn parses a function's text: p 1 and q 2, of 64 bits, a byte 3 and a condition
// 4 are its parameters.
func fn(t *testing.T, blocks string) api.Func {
	t.Helper()
	f, e := text.Parse("func (64 64 8 1) 8 " + strings.Join(strings.Fields(blocks), " "))
	if e != api.OK {
		t.Fatalf("%q: %v", blocks, e)
	}
	if e := check.Check(f, api.Lanes); e != api.OK {
		t.Fatalf("%q isn't right: %v", blocks, e)
	}
	return f
}

// one parses a function of one block, by its operations.
func one(t *testing.T, ops string) api.Func {
	t.Helper()
	return fn(t, "block "+ops+" ret 3 ()")
}

func printed(f api.Func) string {
	s, _ := text.Print(f)
	return s
}

func checkAddress(t *testing.T, f api.Func, block, at, v, length int) {
	t.Helper()
	if x, n, is := alias.Address(f, block, at); x != v || n != length || !is {
		t.Errorf("P18.1: Address(%v, %d, %d): %v %v %v, not %d %d", printed(f), block, at, x, n, is, v, length)
	}
}

func checkNoTouch(t *testing.T, f api.Func, block, at int) {
	t.Helper()
	if x, n, is := alias.Address(f, block, at); x != 0 || n != 0 || is {
		t.Errorf("P18.1: Address(%v, %d, %d): %v %v %v", f, block, at, x, n, is)
	}
}

func checkTouches(t *testing.T, f api.Func, block int, want ...int) {
	t.Helper()
	if list := alias.Touches(f, block); !slices.Equal(list, want) {
		t.Errorf("P18.1: Touches(%v, %d): %v, not %v", f, block, list, want)
	}
}

// far are places, and blocks, that no function has.
var far = []int{-1, -2, 64, 512, 1 << 32, -1 << 32, math.MaxInt, math.MinInt}

// P18.1

func TestAddressOfLoadAndStore(t *testing.T) {
	for _, x := range []struct {
		shape  string
		length int
	}{
		{"8 1", 1}, {"8 2", 2}, {"8 4", 4}, {"8 8", 8}, {"8 16", 16},
		{"16 1", 2}, {"16 2", 4}, {"16 4", 8}, {"16 8", 16},
		{"32 1", 4}, {"32 2", 8}, {"32 4", 16},
		{"64 1", 8}, {"64 2", 16},
	} {
		f := one(t, "load "+x.shape+" 9 (2) 0 store "+x.shape+" 0 (1 9) 0")
		checkAddress(t, f, 0, 0, 2, x.length)
		checkAddress(t, f, 0, 1, 1, x.length)
		checkTouches(t, f, 0, 0, 1)
	}
	// Where what is stored might be a place, too.
	f := one(t, "store 64 1 0 (2 1) 0 store 64 1 0 (1 2) 0 load 64 1 9 (1) 0 load 8 1 10 (9) 0")
	checkAddress(t, f, 0, 0, 2, 8)
	checkAddress(t, f, 0, 1, 1, 8)
	checkAddress(t, f, 0, 3, 9, 1)
}

func TestAddressOfPloadAndPstore(t *testing.T) {
	for _, x := range []struct {
		bits   string
		length int
	}{{"8", 1}, {"16", 2}, {"32", 4}, {"64", 8}} {
		f := one(t, "load "+x.bits+" 1 9 (1) 0 pload "+x.bits+" 1 10 (4 2 9) 0 pstore "+x.bits+" 1 0 (4 1 10) 0")
		checkAddress(t, f, 0, 1, 2, x.length)
		checkAddress(t, f, 0, 2, 1, x.length)
		checkTouches(t, f, 0, 0, 1, 2)
	}
	// Where the last one might be a place, too.
	f := one(t, "pload 64 1 9 (4 2 1) 0 pstore 64 1 0 (4 9 2) 0 pstore 64 1 0 (4 1 1) 0")
	checkAddress(t, f, 0, 0, 2, 8)
	checkAddress(t, f, 0, 1, 9, 8)
	checkAddress(t, f, 0, 2, 1, 8)
}

// All other kinds touch nothing.
func TestNoTouchOfOtherKinds(t *testing.T) {
	f := one(t, `const 64 1 9 () 5 add 64 1 10 (1 9) 0 sub 64 1 11 (1 9) 0 mul 64 1 12 (1 9) 0 div 64 1 13 (1 9) 0
		and 64 1 14 (1 9) 0 or 64 1 15 (1 9) 0 xor 64 1 16 (1 9) 0 shl 64 1 17 (1 9) 0 shr 64 1 18 (1 9) 0
		eq 64 1 19 (1 9) 0 ult 64 1 20 (1 9) 0 slt 64 1 21 (1 9) 0 select 64 1 22 (4 1 9) 0 zext 64 1 23 (3) 8 trunc 8 1 24 (1) 64
		pdiv 64 1 25 (4 1 9 2) 0 pack 64 2 26 (1 9) 0 get 64 2 27 (26) 1`)
	for at := range f.Blocks[0].Ops {
		checkNoTouch(t, f, 0, at)
	}
	checkTouches(t, f, 0)
	checkTouches(t, fn(t, "block ret 3 ()"), 0)
}

func TestTouchesOfBlocks(t *testing.T) {
	f := fn(t, `block load 8 1 9 (1) 0 add 8 1 10 (9 9) 0 store 8 1 0 (1 10) 0 jump 0 (1)
		block phi 64 11 (0 2) (1 2) phi 64 12 (0 2) (2 1) if 4 (2 3)
		block const 8 1 13 () 7 pstore 8 1 0 (4 11 13) 0 pload 8 1 14 (4 12 3) 0 jump 0 (1)
		block phi 64 15 (1) (11) phi 8 16 (1) (3) store 8 1 0 (15 16) 0 const 8 1 17 () 9 load 8 4 18 (12) 0 ret 17 ()`)
	checkTouches(t, f, 0, 0, 2)
	checkTouches(t, f, 1)
	checkTouches(t, f, 2, 1, 2)
	// Phis have no places.
	checkTouches(t, f, 3, 0, 2)
	checkAddress(t, f, 2, 1, 11, 1)
	checkAddress(t, f, 2, 2, 12, 1)
	checkAddress(t, f, 3, 0, 15, 1)
	checkAddress(t, f, 3, 2, 12, 4)
	checkNoTouch(t, f, 3, 1)
	checkNoTouch(t, f, 1, 0)
}

func TestNoSuchTouch(t *testing.T) {
	f := fn(t, `block load 8 1 9 (1) 0 store 8 1 0 (1 9) 0 jump 0 (1) block load 8 1 10 (1) 0 ret 9 ()`)
	for _, n := range append([]int{2}, far...) {
		checkNoTouch(t, f, 0, n)
		checkNoTouch(t, f, n, 0)
		checkNoTouch(t, f, n, n)
		checkTouches(t, f, n)
	}
	checkNoTouch(t, f, 1, 1)
	checkAddress(t, f, 1, 0, 1, 1)
}

// As many as there may be.
func TestTouchesOfGreatBlocks(t *testing.T) {
	f := one(t, "")
	var want []int
	for at := range api.MaxOps - 1 {
		f.Blocks[0].Ops = append(f.Blocks[0].Ops, api.Op{Kind: api.Store, Bits: 8, Lanes: 1, Args: []int{1, 3}})
		want = append(want, at)
	}
	checkTouches(t, f, 0, want...)
	checkAddress(t, f, 0, api.MaxOps-2, 1, 1)
	checkNoTouch(t, f, 0, api.MaxOps-1)
	f.Blocks[0].Ops = append(f.Blocks[0].Ops, f.Blocks[0].Ops[0])
	checkTouches(t, f, 0)
	checkNoTouch(t, f, 0, 0)
}
