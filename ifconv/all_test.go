package ifconv_test

import (
	"math"
	"strings"
	"testing"

	"lockstep/api"
	"lockstep/code"
	"lockstep/ifconv"
)

// P15.2

func TestAllOfOne(t *testing.T) {
	f := fn(t, "block if 1 (1 2) block const 8 1 5 () 1 jump 0 (3) block const 8 1 6 () 2 load 8 1 8 (3) 0 jump 0 (3) block phi 8 7 (1 2) (5 8) ret 7 ()")
	want := fn(t, `block const 8 1 5 () 1 const 1 1 9 () 1 xor 1 1 10 (1 9) 0 const 8 1 6 () 2 const 8 1 11 () 0 pload 8 1 8 (10 3 11) 0 select 8 1 12 (1 5 8) 0 jump 0 (1)
		block phi 8 7 (0) (12) ret 7 ()`)
	// What both blocks have counts together.
	for _, most := range []int{3, 4, 5, math.MaxInt} {
		checkAll(t, f, most, want)
	}
	for _, most := range []int{2, 1, 0, -1, -3, math.MinInt} {
		checkAll(t, f, most, f)
	}
}

func TestAllThatCostNothing(t *testing.T) {
	f := fn(t, "block if 1 (1 2) block jump 0 (3) block jump 0 (3) block phi 8 5 (1 2) (2 2) ret 5 ()")
	want := fn(t, "block jump 0 (1) block phi 8 5 (0) (2) ret 5 ()")
	checkAll(t, f, 0, want)
	checkAll(t, f, math.MaxInt, want)
	checkAll(t, f, -1, f)
	checkAll(t, f, math.MinInt, f)
}

// two are two hammocks, one behind the other: 0, 1, 2 with so many operations
// between, and 2, 3, 4 with one.
func two(ops string) string {
	return "block if 1 (1 2) block " + ops + "jump 0 (2) block phi 8 10 (0 1) (2 11) if 4 (4 3) block load 8 1 12 (3) 0 jump 0 (4) block phi 8 13 (2 3) (10 12) ret 13 ()"
}

func TestTheFirstIsMergedFirst(t *testing.T) {
	// That is to be seen by the new values.
	checkAll(t, fn(t, two("load 8 1 11 (3) 0 ")), 1, fn(t, `block const 8 1 14 () 0 pload 8 1 11 (1 3 14) 0 select 8 1 15 (1 11 2) 0 jump 0 (1)
		block phi 8 10 (0) (15) const 1 1 16 () 1 xor 1 1 17 (4 16) 0 const 8 1 18 () 0 pload 8 1 12 (17 3 18) 0 select 8 1 19 (4 10 12) 0 jump 0 (2) block phi 8 13 (1) (19) ret 13 ()`))
}

func TestADearOneIsPassedOver(t *testing.T) {
	f := two("const 8 1 9 () 5 add 8 1 11 (9 9) 0 ")
	second := fn(t, `block if 1 (1 2) block const 8 1 9 () 5 add 8 1 11 (9 9) 0 jump 0 (2)
		block phi 8 10 (0 1) (2 11) const 1 1 14 () 1 xor 1 1 15 (4 14) 0 const 8 1 16 () 0 pload 8 1 12 (15 3 16) 0 select 8 1 17 (4 10 12) 0 jump 0 (3) block phi 8 13 (2) (17) ret 13 ()`)
	checkAll(t, fn(t, f), 0, fn(t, f))
	checkAll(t, fn(t, f), 1, second)
	checkAll(t, fn(t, f), 2, fn(t, `block const 8 1 9 () 5 add 8 1 11 (9 9) 0 select 8 1 14 (1 11 2) 0 jump 0 (1)
		block phi 8 10 (0) (14) const 1 1 15 () 1 xor 1 1 16 (4 15) 0 const 8 1 17 () 0 pload 8 1 12 (16 3 17) 0 select 8 1 18 (4 10 12) 0 jump 0 (2) block phi 8 13 (1) (18) ret 13 ()`))
	// One that can't be merged is passed over, too.
	f = two("const 8 2 9 () 5 get 8 2 11 (9) 1 ")
	for _, most := range []int{1, 2, 99} {
		g := ifconv.All(fn(t, f), most)
		if len(g.Blocks) != 4 || g.Blocks[0].End.Kind != api.If || g.Blocks[2].End.Kind != api.Jump {
			t.Errorf("P15.2: All(%v, %d): %v", f, most, printed(g))
		}
	}
}

func TestOneThatWouldBeTooGreatIsPassedOver(t *testing.T) {
	// The first one asks for two new values, the second for one, and one is left.
	f := "block const 8 1 1022 () 5 if 1 (1 2) block load 8 1 11 (3) 0 jump 0 (2) block phi 8 10 (0 1) (2 11) if 4 (4 3) block jump 0 (4) block phi 8 13 (2 3) (10 1022) ret 13 ()"
	checkAll(t, fn(t, f), plenty, fn(t, "block const 8 1 1022 () 5 if 1 (1 2) block load 8 1 11 (3) 0 jump 0 (2) block phi 8 10 (0 1) (2 11) select 8 1 1023 (4 10 1022) 0 jump 0 (3) block phi 8 13 (2) (1023) ret 13 ()"))
	// Two are left: the first one takes both.
	f = strings.ReplaceAll(f, "1022", "1021")
	checkAll(t, fn(t, f), plenty, fn(t, "block const 8 1 1021 () 5 const 8 1 1022 () 0 pload 8 1 11 (1 3 1022) 0 select 8 1 1023 (1 11 2) 0 jump 0 (1) block phi 8 10 (0) (1023) if 4 (3 2) block jump 0 (3) block phi 8 13 (1 2) (10 1021) ret 13 ()"))
	// None fits, so that none is merged.
	f = strings.ReplaceAll(f, "1021", "1023")
	checkAll(t, fn(t, f), plenty, fn(t, f))
}

func TestAgainAndAgain(t *testing.T) {
	// When the inner one is merged, the outer one becomes a hammock.
	f := "block if 1 (1 3) block add 8 1 5 (2 2) 0 if 4 (2 3) block store 8 1 0 (3 5) 0 jump 0 (3) block phi 8 6 (0 1 2) (2 5 5) ret 6 ()"
	inner := fn(t, "block if 1 (1 2) block add 8 1 5 (2 2) 0 pstore 8 1 0 (4 3 5) 0 jump 0 (2) block phi 8 6 (0 1) (2 5) ret 6 ()")
	all := fn(t, "block add 8 1 5 (2 2) 0 and 1 1 7 (4 1) 0 pstore 8 1 0 (7 3 5) 0 select 8 1 8 (1 5 2) 0 jump 0 (1) block phi 8 6 (0) (8) ret 6 ()")
	checkAll(t, fn(t, f), 0, fn(t, f))
	// It costs two then.
	checkAll(t, fn(t, f), 1, inner)
	checkAll(t, fn(t, f), 2, all)
	checkAll(t, fn(t, f), 99, all)
	// What blocks made one would make a hammock isn't one.
	f = "block if 1 (1 5) block if 4 (2 3) block jump 0 (4) block jump 0 (4) block jump 0 (6) block jump 0 (6) block ret 2 ()"
	checkAll(t, fn(t, f), 99, fn(t, "block if 1 (1 3) block jump 0 (2) block jump 0 (4) block jump 0 (4) block ret 2 ()"))
}

func TestAfterAllNothingIsLeft(t *testing.T) {
	for _, f := range []string{two("load 8 1 11 (3) 0 "), two("const 8 1 11 () 0 "), "block if 1 (1 2) block jump 0 (3) block jump 0 (3) block ret 2 ()"} {
		for most := -1; most < 4; most++ {
			g := ifconv.All(fn(t, f), most)
			if !code.Same(ifconv.All(g, most), g) {
				t.Errorf("P15.2: All(%v, %d) isn't all: %v", f, most, printed(g))
			}
		}
	}
}
