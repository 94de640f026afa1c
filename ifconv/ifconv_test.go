package ifconv_test

import (
	"math"
	"slices"
	"strconv"
	"strings"
	"testing"

	"lockstep/api"
	"lockstep/check"
	"lockstep/code"
	"lockstep/eval"
	"lockstep/ifconv"
	"lockstep/mem"
	"lockstep/text"
)

// plenty is more fuel than any function here asks for.
const plenty = 100000

// The hammocks of most functions here.
var (
	both  = api.Hammock{At: 0, Then: 1, Else: 2, Join: 3}
	then  = api.Hammock{At: 0, Then: 1, Else: -1, Join: 2}
	other = api.Hammock{At: 0, Then: -1, Else: 1, Join: 2}
)

// fn parses a function's text: a condition 1, a byte 2, an address 3 and another
// condition 4 are its parameters.
func fn(t *testing.T, blocks string) api.Func {
	t.Helper()
	f, e := text.Parse("func (1 8 64 1) 8 " + strings.ReplaceAll(blocks, "\t", " "))
	if e != api.OK {
		t.Fatalf("%q: %v", blocks, e)
	}
	return f
}

func printed(f api.Func) string {
	s, e := text.Print(f)
	return s + strconv.Itoa(int(e))
}

// checkMerged checks what becomes of a function, and that it does the same.
func checkMerged(t *testing.T, blocks string, h api.Hammock, want string) {
	t.Helper()
	f, w := fn(t, blocks), fn(t, want)
	g, e := ifconv.Merge(f, h)
	if e != api.OK || !code.Same(g, w) {
		t.Errorf("P15.1: Merge(%v): %v %v\nnot %v", blocks, e, printed(g), printed(w))
	}
	checkAsBefore(t, f, g)
}

// checkNot checks that nothing is merged, and by which code that is told.
func checkNot(t *testing.T, f api.Func, h api.Hammock, want api.Code) {
	t.Helper()
	g, e := ifconv.Merge(f, h)
	if e != want || !code.Same(g, api.Func{}) {
		t.Errorf("P15.1: Merge(%v, %v): %v %v, not %v", f, h, e, g, want)
	}
}

// checkAll checks what becomes of all, and that it does the same.
func checkAll(t *testing.T, f api.Func, most int, want api.Func) {
	t.Helper()
	g := ifconv.All(f, most)
	if !code.Same(g, want) {
		t.Errorf("P15.2: All(%v, %d): %v\nnot %v", printed(f), most, printed(g), printed(want))
	}
	if check.Check(f, api.Lanes) == api.OK {
		checkAsBefore(t, f, g)
	}
}

// came is how something came out.
type came struct {
	run   api.Run
	bytes []byte
	trace []api.Touch
}

func ran(t *testing.T, f api.Func, args []uint64, b []byte, fuel int) came {
	t.Helper()
	m, _ := mem.New(b)
	r, e := eval.Run(f, args, m, fuel)
	if e != api.OK {
		t.Fatalf("P15.3: %v can't be run: %v", f, e)
	}
	return came{r, m.Bytes(), m.Trace()}
}

// isSame tells whether it came out the same, in however many steps.
func (c came) isSame(d came) bool {
	return c.run.Code == d.run.Code && c.run.Value == d.run.Value && slices.Equal(c.bytes, d.bytes) && slices.Equal(c.trace, d.trace)
}

// checkAsBefore checks P15.3 of a function with fn's parameters, and of what was
// made of it.
func checkAsBefore(t *testing.T, f, g api.Func) {
	t.Helper()
	if e := check.Check(g, max(levelOf(f), api.Guarded)); e != api.OK {
		t.Errorf("P15.3: %v isn't right: %v", printed(g), e)
		return
	}
	for i := range 4 {
		for _, v := range []uint64{0, 1, 7, 255} {
			for _, at := range []uint64{0, 1, 6, 8, 9, math.MaxUint64 - 1} {
				args := []uint64{uint64(i % 2), v, at, uint64(i / 2)}
				b := []byte{1, 2, 0, 255, 3, 8, 7, 200, 0}
				x, y := ran(t, f, args, b, plenty), ran(t, g, args, b, plenty)
				if !x.isSame(y) {
					t.Errorf("P15.3: %v: %v, though of %v %v", printed(g), y, args, x)
				}
			}
		}
	}
}

// levelOf is the least level at which a function is right.
func levelOf(f api.Func) int {
	level := api.Scalar
	for level < api.Lanes && check.Check(f, level) != api.OK {
		level++
	}
	return level
}

// P15.1: pure operations

func TestTheExample(t *testing.T) {
	checkMerged(t, "block if 1 (1 2) block const 8 1 5 () 1 jump 0 (3) block const 8 1 6 () 2 jump 0 (3) block phi 8 7 (1 2) (5 6) ret 7 ()", both,
		"block const 8 1 5 () 1 const 8 1 6 () 2 select 8 1 8 (1 5 6) 0 jump 0 (1) block phi 8 7 (0) (8) ret 7 ()")
	// Then is the first way, wherever it leads.
	checkMerged(t, "block if 1 (2 1) block const 8 1 5 () 1 jump 0 (3) block const 8 1 6 () 2 jump 0 (3) block phi 8 7 (1 2) (5 6) ret 7 ()", api.Hammock{At: 0, Then: 2, Else: 1, Join: 3},
		"block const 8 1 6 () 2 const 8 1 5 () 1 select 8 1 8 (1 6 5) 0 jump 0 (1) block phi 8 7 (0) (8) ret 7 ()")
}

const pure = `const 8 1 5 () 9 add 8 1 6 (5 2) 0 sub 8 1 7 (5 2) 0 mul 8 1 8 (5 2) 0 and 8 1 9 (5 2) 0 or 8 1 10 (5 2) 0 xor 8 1 11 (5 2) 0 shl 8 1 12 (5 2) 0
	shr 8 1 13 (5 2) 0 eq 8 1 14 (5 2) 0 ult 8 1 15 (5 2) 0 slt 8 1 16 (5 2) 0 select 8 1 17 (1 5 2) 0 zext 64 1 18 (2) 8 trunc 8 1 19 (3) 64 `

func TestPureOnesStay(t *testing.T) {
	// And nobody asks for what Else would be guarded by.
	checkMerged(t, "block if 1 (1 2) block "+pure+"jump 0 (3) block jump 0 (3) block ret 2 ()", both, "block "+pure+"jump 0 (1) block ret 2 ()")
	checkMerged(t, "block if 1 (1 2) block jump 0 (3) block "+pure+"jump 0 (3) block ret 2 ()", both, "block "+pure+"jump 0 (1) block ret 2 ()")
	checkMerged(t, "block if 1 (1 2) block "+pure+"jump 0 (2) block ret 2 ()", then, "block "+pure+"jump 0 (1) block ret 2 ()")
	checkMerged(t, "block if 1 (2 1) block "+pure+"jump 0 (2) block ret 2 ()", other, "block "+pure+"jump 0 (1) block ret 2 ()")
}

func TestBehindAtsOperations(t *testing.T) {
	// At's own stay what they are, and as they stand, with as many lanes as they have; its phis, too.
	const at = "load 8 1 10 (3) 0 div 8 1 11 (2 10) 0 store 8 1 0 (3 11) 0 const 32 4 12 () 7 load 16 8 13 (3) 0 pload 8 1 14 (4 3 2) 0 eq 8 1 15 (2 10) 0 "
	checkMerged(t, "block "+at+"if 15 (1 2) block add 8 1 20 (11 2) 0 jump 0 (3) block sub 8 1 21 (11 2) 0 jump 0 (3) block phi 8 22 (1 2) (20 21) ret 22 ()", both,
		"block "+at+"add 8 1 20 (11 2) 0 sub 8 1 21 (11 2) 0 select 8 1 23 (15 20 21) 0 jump 0 (1) block phi 8 22 (0) (23) ret 22 ()")
	checkMerged(t, "block jump 0 (1) block phi 1 5 (0) (4) phi 8 6 (0) (2) add 8 1 7 (6 6) 0 if 5 (2 3) block store 8 1 0 (3 7) 0 jump 0 (3) block ret 7 ()", api.Hammock{At: 1, Then: 2, Else: -1, Join: 3},
		"block jump 0 (1) block phi 1 5 (0) (4) phi 8 6 (0) (2) add 8 1 7 (6 6) 0 pstore 8 1 0 (5 3 7) 0 jump 0 (2) block ret 7 ()")
}

// P15.1: guarded operations

// guards are operations, and what becomes of them: guarded by G, with the new
// values A to D.
var guards = []struct{ was, is string }{
	{"load 8 1 20 (3) 0 ", "const 8 1 A () 0 pload 8 1 20 (G 3 A) 0 "},
	{"load 16 1 20 (3) 0 ", "const 16 1 A () 0 pload 16 1 20 (G 3 A) 0 "},
	{"load 64 1 20 (3) 0 ", "const 64 1 A () 0 pload 64 1 20 (G 3 A) 0 "},
	{"store 8 1 0 (3 2) 0 ", "pstore 8 1 0 (G 3 2) 0 "},
	{"store 64 1 0 (3 3) 0 ", "pstore 64 1 0 (G 3 3) 0 "},
	{"div 8 1 20 (40 2) 0 ", "const 8 1 A () 0 pdiv 8 1 20 (G 40 2 A) 0 "},
	{"div 1 1 20 (4 1) 0 ", "const 1 1 A () 0 pdiv 1 1 20 (G 4 1 A) 0 "},
	{"div 64 1 20 (3 3) 0 ", "const 64 1 A () 0 pdiv 64 1 20 (G 3 3 A) 0 "},
	{"pload 8 1 20 (4 3 2) 0 ", "and 1 1 A (4 G) 0 pload 8 1 20 (A 3 2) 0 "},
	{"pload 64 1 20 (4 3 3) 0 ", "and 1 1 A (4 G) 0 pload 64 1 20 (A 3 3) 0 "},
	{"pstore 8 1 0 (4 3 2) 0 ", "and 1 1 A (4 G) 0 pstore 8 1 0 (A 3 2) 0 "},
	{"pdiv 8 1 20 (4 40 2 2) 0 ", "and 1 1 A (4 G) 0 pdiv 8 1 20 (A 40 2 2) 0 "},
	{"load 8 1 20 (3) 0 div 8 1 21 (40 20) 0 store 8 1 0 (3 21) 0 ", "const 8 1 A () 0 pload 8 1 20 (G 3 A) 0 const 8 1 B () 0 pdiv 8 1 21 (G 40 20 B) 0 pstore 8 1 0 (G 3 21) 0 "},
	{"pload 8 1 20 (1 3 2) 0 pdiv 8 1 21 (4 2 20 40) 0 pstore 8 1 0 (4 3 21) 0 load 8 1 22 (3) 0 ",
		"and 1 1 A (1 G) 0 pload 8 1 20 (A 3 2) 0 and 1 1 B (4 G) 0 pdiv 8 1 21 (B 2 20 40) 0 and 1 1 C (4 G) 0 pstore 8 1 0 (C 3 21) 0 const 8 1 D () 0 pload 8 1 22 (G 3 D) 0 "},
}

// put gives what becomes of operations that a value guards, where the new ones
// are numbered on from another.
func put(is, guard string, from int) string {
	n := strconv.Itoa
	return strings.NewReplacer("G", guard, "A", n(from), "B", n(from+1), "C", n(from+2), "D", n(from+3)).Replace(is)
}

func TestGuardedOfThen(t *testing.T) {
	for _, x := range guards {
		is := "block const 8 1 40 () 77 " + put(x.is, "1", 41) + "jump 0 (1) block ret 2 ()"
		checkMerged(t, "block const 8 1 40 () 77 if 1 (1 2) block "+x.was+"jump 0 (2) block ret 2 ()", then, is)
		checkMerged(t, "block const 8 1 40 () 77 if 1 (1 2) block "+x.was+"jump 0 (3) block jump 0 (3) block ret 2 ()", both, is)
	}
}

func TestGuardedOfElse(t *testing.T) {
	for _, x := range guards {
		is := "block const 8 1 40 () 77 const 1 1 41 () 1 xor 1 1 42 (1 41) 0 " + put(x.is, "42", 43) + "jump 0 (1) block ret 2 ()"
		checkMerged(t, "block const 8 1 40 () 77 if 1 (2 1) block "+x.was+"jump 0 (2) block ret 2 ()", other, is)
		checkMerged(t, "block const 8 1 40 () 77 if 1 (1 2) block jump 0 (3) block "+x.was+"jump 0 (3) block ret 2 ()", both, is)
		// The Xor stands ahead of all of Else, pure ones too.
		is = "block const 8 1 40 () 77 const 8 1 30 () 3 const 1 1 41 () 1 xor 1 1 42 (1 41) 0 const 8 1 31 () 4 " + put(x.is, "42", 43) + "const 8 1 32 () 5 jump 0 (1) block ret 2 ()"
		checkMerged(t, "block const 8 1 40 () 77 if 1 (1 2) block const 8 1 30 () 3 jump 0 (3) block const 8 1 31 () 4 "+x.was+"const 8 1 32 () 5 jump 0 (3) block ret 2 ()", both, is)
	}
}

func TestGuardedOfBoth(t *testing.T) {
	const ahead = "const 8 1 40 () 77 "
	checkMerged(t, "block "+ahead+"if 1 (1 2) block load 8 1 5 (3) 0 store 8 1 0 (3 40) 0 jump 0 (3) block div 8 1 6 (40 2) 0 pstore 8 1 0 (4 3 6) 0 jump 0 (3) block phi 8 7 (1 2) (5 6) phi 8 8 (1 2) (2 2) phi 8 9 (1 2) (40 6) add 8 1 10 (7 8) 0 add 8 1 11 (10 9) 0 ret 11 ()", both,
		"block "+ahead+`const 8 1 41 () 0 pload 8 1 5 (1 3 41) 0 pstore 8 1 0 (1 3 40) 0 const 1 1 42 () 1 xor 1 1 43 (1 42) 0 const 8 1 44 () 0 pdiv 8 1 6 (43 40 2 44) 0
		and 1 1 45 (4 43) 0 pstore 8 1 0 (45 3 6) 0 select 8 1 46 (1 5 6) 0 select 8 1 47 (1 40 6) 0 jump 0 (1)
		block phi 8 7 (0) (46) phi 8 8 (0) (2) phi 8 9 (0) (47) add 8 1 10 (7 8) 0 add 8 1 11 (10 9) 0 ret 11 ()`)
}

// P15.1: phis

func TestPhisByBothWays(t *testing.T) {
	const jumps = "block if 1 (1 2) block const 8 1 5 () 1 const 64 1 6 () 2 jump 0 (3) block const 1 1 7 () 1 jump 0 (3) "
	const ops = "block const 8 1 5 () 1 const 64 1 6 () 2 const 1 1 7 () 1 "
	// Of each width; and one value by both ways stays what it is.
	checkMerged(t, jumps+"block phi 8 10 (1 2) (5 2) phi 64 11 (1 2) (6 3) phi 1 12 (1 2) (4 7) phi 8 13 (1 2) (2 2) phi 8 14 (1 2) (2 2) phi 8 15 (1 2) (5 2) ret 10 ()", both,
		ops+"select 8 1 16 (1 5 2) 0 select 64 1 17 (1 6 3) 0 select 1 1 18 (1 4 7) 0 select 8 1 19 (1 5 2) 0 jump 0 (1) block phi 8 10 (0) (16) phi 64 11 (0) (17) phi 1 12 (0) (18) phi 8 13 (0) (2) phi 8 14 (0) (2) phi 8 15 (0) (19) ret 10 ()")
	// None at all; and one that asks for the condition itself.
	checkMerged(t, jumps+"block ret 2 ()", both, ops+"jump 0 (1) block ret 2 ()")
	checkMerged(t, jumps+"block phi 1 10 (1 2) (1 1) phi 1 11 (1 2) (1 4) ret 2 ()", both, ops+"select 1 1 12 (1 1 4) 0 jump 0 (1) block phi 1 10 (0) (1) phi 1 11 (0) (12) ret 2 ()")
	// Two values with the same number in them are two.
	checkMerged(t, "block if 1 (1 2) block const 8 1 5 () 1 jump 0 (3) block const 8 1 6 () 1 jump 0 (3) block phi 8 7 (1 2) (5 6) ret 7 ()", both,
		"block const 8 1 5 () 1 const 8 1 6 () 1 select 8 1 8 (1 5 6) 0 jump 0 (1) block phi 8 7 (0) (8) ret 7 ()")
}

func TestPhisByOneBlock(t *testing.T) {
	checkMerged(t, "block const 8 1 9 () 9 if 1 (1 2) block const 8 1 5 () 1 jump 0 (2) block phi 8 6 (0 1) (2 5) phi 8 7 (0 1) (9 9) add 8 1 8 (6 7) 0 ret 8 ()", then,
		"block const 8 1 9 () 9 const 8 1 5 () 1 select 8 1 10 (1 5 2) 0 jump 0 (1) block phi 8 6 (0) (10) phi 8 7 (0) (9) add 8 1 8 (6 7) 0 ret 8 ()")
	checkMerged(t, "block const 8 1 9 () 9 if 1 (2 1) block const 8 1 5 () 1 jump 0 (2) block phi 8 6 (0 1) (2 5) phi 8 7 (0 1) (9 9) add 8 1 8 (6 7) 0 ret 8 ()", other,
		"block const 8 1 9 () 9 const 8 1 5 () 1 select 8 1 10 (1 2 5) 0 jump 0 (1) block phi 8 6 (0) (10) phi 8 7 (0) (9) add 8 1 8 (6 7) 0 ret 8 ()")
	// Nothing between but an end.
	checkMerged(t, "block if 1 (1 2) block jump 0 (2) block phi 8 5 (0 1) (2 2) phi 1 6 (0 1) (1 4) ret 5 ()", then,
		"block select 1 1 7 (1 4 1) 0 jump 0 (1) block phi 8 5 (0) (2) phi 1 6 (0) (7) ret 5 ()")
}

func TestOthersComeToTheJoin(t *testing.T) {
	// At is ahead of the other comer, though those between are behind it; and it is behind it, though they are ahead.
	checkMerged(t, "block const 8 1 9 () 9 if 4 (1 2) block if 1 (3 4) block jump 0 (5) block jump 0 (5) block jump 0 (5) block phi 8 6 (2 3 4) (2 9 2) ret 6 ()", api.Hammock{At: 1, Then: 3, Else: 4, Join: 5},
		"block const 8 1 9 () 9 if 4 (1 2) block select 8 1 10 (1 9 2) 0 jump 0 (3) block jump 0 (3) block phi 8 6 (1 2) (10 2) ret 6 ()")
	checkMerged(t, "block const 8 1 9 () 9 if 4 (4 3) block jump 0 (5) block jump 0 (5) block jump 0 (5) block if 1 (1 2) block phi 8 6 (1 2 3) (9 2 2) phi 8 7 (1 2 3) (2 2 9) add 8 1 8 (6 7) 0 ret 8 ()", api.Hammock{At: 4, Then: 1, Else: 2, Join: 5},
		"block const 8 1 9 () 9 if 4 (2 1) block jump 0 (3) block select 8 1 10 (1 9 2) 0 jump 0 (3) block phi 8 6 (1 2) (2 10) phi 8 7 (1 2) (9 2) add 8 1 8 (6 7) 0 ret 8 ()")
	// With one side's block, At comes to the join itself.
	checkMerged(t, "block const 8 1 9 () 9 if 4 (3 2) block jump 0 (4) block jump 0 (4) block if 1 (4 1) block phi 8 6 (1 2 3) (9 2 2) ret 6 ()", api.Hammock{At: 3, Then: -1, Else: 1, Join: 4},
		"block const 8 1 9 () 9 if 4 (2 1) block jump 0 (3) block select 8 1 10 (1 2 9) 0 jump 0 (3) block phi 8 6 (1 2) (2 10) ret 6 ()")
	// What others say isn't asked about.
	checkMerged(t, "block const 8 1 9 () 9 if 4 (1 4) block if 1 (2 3) block jump 0 (5) block jump 0 (5) block jump 0 (5) block phi 8 6 (2 3 4) (2 2 9) phi 8 7 (2 3 4) (9 2 9) ret 6 ()", api.Hammock{At: 1, Then: 2, Else: 3, Join: 5},
		"block const 8 1 9 () 9 if 4 (1 2) block select 8 1 10 (1 9 2) 0 jump 0 (3) block jump 0 (3) block phi 8 6 (1 2) (2 9) phi 8 7 (1 2) (10 9) ret 6 ()")
}

func TestWhatGoesRound(t *testing.T) {
	// The join is the loop's head, whose phis come by the way back, too.
	checkMerged(t, `block const 8 1 10 () 1 jump 0 (1) block phi 8 11 (0 3 4) (2 13 11) phi 8 12 (0 3 4) (10 12 14) add 8 1 15 (11 12) 0 ult 1 1 30 (4 1) 0 ult 8 1 16 (15 2) 0 if 16 (2 5)
		block ult 8 1 17 (12 11) 0 if 17 (3 4) block sub 8 1 13 (11 10) 0 jump 0 (1) block add 8 1 14 (12 10) 0 store 8 1 0 (3 14) 0 jump 0 (1) block ret 15 ()`, api.Hammock{At: 2, Then: 3, Else: 4, Join: 1},
		`block const 8 1 10 () 1 jump 0 (1) block phi 8 11 (0 2) (2 33) phi 8 12 (0 2) (10 34) add 8 1 15 (11 12) 0 ult 1 1 30 (4 1) 0 ult 8 1 16 (15 2) 0 if 16 (2 3)
		block ult 8 1 17 (12 11) 0 sub 8 1 13 (11 10) 0 const 1 1 31 () 1 xor 1 1 32 (17 31) 0 add 8 1 14 (12 10) 0 pstore 8 1 0 (32 3 14) 0 select 8 1 33 (17 13 11) 0 select 8 1 34 (17 12 14) 0 jump 0 (1) block ret 15 ()`)
	// The join is the loop's head that goes on at itself.
	checkMerged(t, "block if 1 (1 2) block const 8 1 5 () 3 jump 0 (2) block phi 8 6 (0 1 2) (2 5 7) const 8 1 8 () 1 shr 8 1 7 (6 8) 0 eq 8 1 9 (7 6) 0 if 9 (3 2) block ret 6 ()", then,
		"block const 8 1 5 () 3 select 8 1 10 (1 5 2) 0 jump 0 (1) block phi 8 6 (0 1) (10 7) const 8 1 8 () 1 shr 8 1 7 (6 8) 0 eq 8 1 9 (7 6) 0 if 9 (2 1) block ret 6 ()")
}

// P15.1: places

func TestPlaces(t *testing.T) {
	// Those between stand ahead of At, behind it, and on both sides of it.
	checkMerged(t, "block jump 0 (3) block jump 0 (4) block jump 0 (4) block if 1 (1 2) block phi 8 5 (1 2) (2 2) jump 0 (5) block phi 8 6 (4) (5) ret 6 ()", api.Hammock{At: 3, Then: 1, Else: 2, Join: 4},
		"block jump 0 (1) block jump 0 (2) block phi 8 5 (1) (2) jump 0 (3) block phi 8 6 (2) (5) ret 6 ()")
	checkMerged(t, "block jump 0 (2) block jump 0 (4) block if 1 (1 3) block jump 0 (4) block phi 8 5 (1 3) (2 2) jump 0 (5) block phi 8 6 (4) (5) ret 6 ()", api.Hammock{At: 2, Then: 1, Else: 3, Join: 4},
		"block jump 0 (1) block jump 0 (2) block phi 8 5 (1) (2) jump 0 (3) block phi 8 6 (2) (5) ret 6 ()")
	// The last two places; the join ahead of At.
	checkMerged(t, "block jump 0 (2) block phi 8 5 (3 4) (2 2) ret 5 () block if 1 (4 3) block jump 0 (1) block jump 0 (1)", api.Hammock{At: 2, Then: 4, Else: 3, Join: 1},
		"block jump 0 (2) block phi 8 5 (2) (2) ret 5 () block jump 0 (1)")
	// All ends, and all phis, of others are told the new places: an If whose ways are alike, a Trap, and a Ret.
	checkMerged(t, `block if 1 (4 7) block jump 0 (5) block ret 2 () block jump 0 (5) block if 4 (1 3) block phi 8 5 (1 3) (2 2) if 4 (6 6) block phi 8 6 (5) (5) if 1 (8 2)
		block phi 8 7 (0) (2) trap 0 () block phi 8 8 (6) (6) ret 8 ()`, api.Hammock{At: 4, Then: 1, Else: 3, Join: 5},
		"block if 1 (2 5) block ret 2 () block jump 0 (3) block phi 8 5 (2) (2) if 4 (4 4) block phi 8 6 (3) (5) if 1 (6 1) block phi 8 7 (0) (2) trap 0 () block phi 8 8 (4) (6) ret 8 ()")
	// Only the one that is asked for is merged.
	checkMerged(t, "block if 1 (1 2) block jump 0 (2) block if 4 (4 3) block jump 0 (4) block ret 2 ()", then, "block jump 0 (1) block if 4 (3 2) block jump 0 (3) block ret 2 ()")
	checkMerged(t, "block if 1 (1 2) block jump 0 (2) block if 4 (4 3) block jump 0 (4) block ret 2 ()", api.Hammock{At: 2, Then: -1, Else: 3, Join: 4}, "block if 1 (1 2) block jump 0 (2) block jump 0 (3) block ret 2 ()")
}

// P15.1: new values

func TestNewValues(t *testing.T) {
	// Numbered on from the greatest, wherever that is: a parameter, a phi, an operation of a block between, or behind the join.
	checkMerged(t, "block if 1 (1 2) block jump 0 (2) block phi 1 99 (0 1) (1 4) ret 2 ()", then, "block select 1 1 100 (1 4 1) 0 jump 0 (1) block phi 1 99 (0) (100) ret 2 ()")
	checkMerged(t, "block if 1 (1 2) block const 8 1 300 () 5 jump 0 (2) block phi 1 99 (0 1) (1 4) ret 2 ()", then, "block const 8 1 300 () 5 select 1 1 301 (1 4 1) 0 jump 0 (1) block phi 1 99 (0) (301) ret 2 ()")
	checkMerged(t, "block if 1 (1 2) block jump 0 (2) block phi 1 99 (0 1) (1 4) const 8 1 500 () 5 ret 2 ()", then, "block select 1 1 501 (1 4 1) 0 jump 0 (1) block phi 1 99 (0) (501) const 8 1 500 () 5 ret 2 ()")
	checkMerged(t, "block if 1 (1 2) block div 8 1 5 (2 2) 0 jump 0 (2) block ret 2 ()", then, "block const 8 1 6 () 0 pdiv 8 1 5 (1 2 2 6) 0 jump 0 (1) block ret 2 ()")
	checkMerged(t, "block if 1 (1 2) block pstore 8 1 0 (4 3 2) 0 jump 0 (2) block ret 2 ()", then, "block and 1 1 5 (4 1) 0 pstore 8 1 0 (5 3 2) 0 jump 0 (1) block ret 2 ()")
}
