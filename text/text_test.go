package text_test

import (
	"bytes"
	"math"
	"slices"
	"strconv"
	"strings"
	"testing"

	"lockstep/api"
	"lockstep/code"
	"lockstep/text"
)

const greatest = 1<<31 - 1

// kinds and ends are the chapter's names, from 0 on.
func kinds() []string {
	return strings.Fields("const add sub mul div and or xor shl shr eq ult slt select zext trunc load store pload pstore pdiv pack get")
}

func ends() []string { return []string{"ret", "jump", "if", "trap"} }

// five is the chapter's example.
func five() api.Func {
	return api.Func{Ret: 8, Blocks: []api.Block{{
		Ops: []api.Op{{Kind: api.Const, Bits: 8, Lanes: 1, Dst: 1, Imm: 5}},
		End: api.End{Kind: api.Ret, Arg: 1},
	}}}
}

const fiveText = "func () 8\nblock\nconst 8 1 1 () 5\nret 1 ()\n"

// sample has all that a function can have, with lists of all lengths from 0 on.
func sample() api.Func {
	return api.Func{Params: []int{64, 8, 1}, Ret: 16, Blocks: []api.Block{
		{
			Ops: []api.Op{
				{Kind: api.Load, Bits: 8, Lanes: 1, Dst: 4, Args: []int{1}},
				{Kind: api.Const, Bits: 64, Lanes: 1, Dst: 5, Imm: math.MaxUint64},
				{Kind: api.Store, Bits: 32, Lanes: 4, Args: []int{1, 200}},
			},
			End: api.End{Kind: api.If, Arg: 3, To: []int{1, 2}},
		},
		{
			Phis: []api.Phi{
				{Bits: 8, Dst: 6, From: []int{0, 7}, Args: []int{4, 2, 9}},
				{Bits: 32, Dst: 1023, From: []int{10}},
			},
			Ops: []api.Op{{Kind: api.Select, Bits: 16, Lanes: 8, Dst: 130, Args: []int{3, 128, 127}}},
			End: api.End{Kind: api.Jump, To: []int{2}},
		},
		{Phis: []api.Phi{{}}, End: api.End{Kind: api.Ret, Arg: 1000}},
		{End: api.End{Kind: api.Trap}},
	}}
}

const sampleText = `func (64 8 1) 16
block
load 8 1 4 (1) 0
const 64 1 5 () 18446744073709551615
store 32 4 0 (1 200) 0
if 3 (1 2)
block
phi 8 6 (0 7) (4 2 9)
phi 32 1023 (10) ()
select 16 8 130 (3 128 127) 0
jump 0 (2)
block
phi 0 0 () ()
ret 1000 ()
block
trap 0 ()
`

// odd may be told, though nothing of it fits: this layer asks for no more.
func odd() api.Func {
	return api.Func{Params: []int{0, greatest}, Ret: greatest, Blocks: []api.Block{{
		Phis: []api.Phi{{Bits: 3, Dst: greatest, From: repeat(64, greatest), Args: repeat(64, 0)}, {}},
		Ops:  []api.Op{{Kind: api.Get, Bits: greatest, Lanes: greatest, Dst: greatest, Args: repeat(64, 77), Imm: greatest + 1}, {}},
		End:  api.End{Kind: api.Trap, Arg: greatest, To: repeat(64, greatest)},
	}}}
}

// bulk has one block of so many phis and operations.
func bulk(phis, ops int) api.Func {
	return api.Func{Blocks: []api.Block{{Phis: make([]api.Phi, phis), Ops: make([]api.Op, ops)}}}
}

// full is a function at the limits: parameters, blocks, phis, operations and ends.
func full() api.Func {
	f := api.Func{Params: repeat(16, 64), Ret: 1, Blocks: make([]api.Block, 64)}
	for i := range f.Blocks {
		f.Blocks[i].Phis = make([]api.Phi, i%3)
		f.Blocks[i].Ops = slices.Repeat([]api.Op{{Kind: i % 23, Bits: 8, Lanes: 16, Dst: i, Args: []int{i, 1}}}, 7-i%3)
		f.Blocks[i].End.Kind = i % 4
	}
	return f
}

func functions() []api.Func {
	return []api.Func{
		five(), sample(), odd(), full(), bulk(0, 511), bulk(511, 0), bulk(200, 311),
		{Blocks: make([]api.Block, 1)}, {Blocks: make([]api.Block, 64)},
	}
}

func repeat(n, v int) []int { return slices.Repeat([]int{v}, n) }

// spell is a function's text, told word by word as the chapter has it.
func spell(f api.Func) string {
	s := "func " + spellList(f.Params) + " " + strconv.Itoa(f.Ret) + "\n"
	n := strconv.Itoa
	for _, k := range f.Blocks {
		s += "block\n"
		for _, p := range k.Phis {
			s += "phi " + n(p.Bits) + " " + n(p.Dst) + " " + spellList(p.From) + " " + spellList(p.Args) + "\n"
		}
		for _, o := range k.Ops {
			s += kinds()[o.Kind] + " " + n(o.Bits) + " " + n(o.Lanes) + " " + n(o.Dst) + " " + spellList(o.Args) + " " + strconv.FormatUint(o.Imm, 10) + "\n"
		}
		s += ends()[k.End.Kind] + " " + n(k.End.Arg) + " " + spellList(k.End.To) + "\n"
	}
	return s
}

func spellList(list []int) string {
	s := "("
	for i, v := range list {
		if i > 0 {
			s += " "
		}
		s += strconv.Itoa(v)
	}
	return s + ")"
}

// P5.1

func TestKindOfNames(t *testing.T) {
	if len(kinds()) != api.Get+1 {
		t.Fatalf("P5.1: there are %d names", len(kinds()))
	}
	for want, name := range kinds() {
		if k, ok := text.Kind(name); k != want || !ok {
			t.Errorf("P5.1: Kind(%q) is %d, %v, not %d", name, k, ok, want)
		}
	}
	for name, want := range map[string]int{
		"const": api.Const, "div": api.Div, "shl": api.Shl, "slt": api.Slt, "zext": api.Zext, "trunc": api.Trunc,
		"store": api.Store, "pload": api.Pload, "pstore": api.Pstore, "pdiv": api.Pdiv, "pack": api.Pack, "get": api.Get,
	} {
		if k, ok := text.Kind(name); k != want || !ok {
			t.Errorf("P5.1: Kind(%q) is %d, %v, not %d", name, k, ok, want)
		}
	}
}

func TestKindOfNoNames(t *testing.T) {
	names := []string{"", " ", "func", "block", "phi", "ret", "jump", "if", "trap", "(", ")", "()", "0", "1", "psub", "sdiv", "not", "c\xff", "\x00"}
	for _, name := range kinds() {
		names = append(names, name+" ", " "+name, name+"\n", name+"s", "p"+name+"p", name[1:], name[:1], strings.ToUpper(name), strings.ToUpper(name[:1])+name[1:], name+"\x00", name+" "+name)
	}
	for _, name := range names {
		if slices.Contains(kinds(), name) {
			continue
		}
		if k, ok := text.Kind(name); k != 0 || ok {
			t.Errorf("P5.1: Kind(%q) is %d, %v", name, k, ok)
		}
	}
}

func checkPrint(t *testing.T, f api.Func, want string, e api.Code) {
	t.Helper()
	if s, c := text.Print(f); s != want || c != e {
		t.Errorf("P5.1: Print is %q, %d, not %q, %d", s, c, want, e)
	}
}

func TestPrintByHand(t *testing.T) {
	checkPrint(t, five(), fiveText, api.OK)
	checkPrint(t, sample(), sampleText, api.OK)
	checkPrint(t, api.Func{Blocks: make([]api.Block, 1)}, "func () 0\nblock\nret 0 ()\n", api.OK)
	checkPrint(t, api.Func{Params: []int{1, 2, 300}, Ret: 4, Blocks: []api.Block{{
		Phis: []api.Phi{{Bits: 5, Dst: 6, From: []int{7, 8}, Args: []int{9}}, {Bits: 10, Dst: 11, From: []int{12}}},
		Ops:  []api.Op{{Kind: 13, Bits: 14, Lanes: 15, Dst: 16, Args: []int{17, 18, 19}, Imm: 1 << 63}, {Kind: 22, Lanes: greatest}},
		End:  api.End{Kind: 3, Arg: 21, To: []int{22, 23}},
	}}}, "func (1 2 300) 4\nblock\nphi 5 6 (7 8) (9)\nphi 10 11 (12) ()\nselect 14 15 16 (17 18 19) 9223372036854775808\nget 0 2147483647 0 () 0\ntrap 21 (22 23)\n", api.OK)
}

func TestPrintOfAll(t *testing.T) {
	for _, f := range functions() {
		checkPrint(t, f, spell(f), api.OK)
	}
}

func TestPrintOfEmptyLists(t *testing.T) {
	checkPrint(t, api.Func{Params: []int{}, Blocks: []api.Block{{
		Phis: []api.Phi{{From: []int{}, Args: []int{}}},
		Ops:  []api.Op{{Args: []int{}}},
		End:  api.End{To: []int{}},
	}}}, "func () 0\nblock\nphi 0 0 () ()\nconst 0 0 0 () 0\nret 0 ()\n", api.OK)
}

func TestPrintOfKindsAndEnds(t *testing.T) {
	for k := -3; k < 40; k++ {
		f := sample()
		f.Blocks[1].Ops[0].Kind = k
		if 0 <= k && k < 23 {
			checkPrint(t, f, strings.Replace(sampleText, "select", kinds()[k], 1), api.OK)
		} else {
			checkPrint(t, f, "", api.Arg)
		}
		f = sample()
		f.Blocks[3].End.Kind = k
		if 0 <= k && k < 4 {
			checkPrint(t, f, strings.Replace(sampleText, "trap", ends()[k], 1), api.OK)
		} else {
			checkPrint(t, f, "", api.Arg)
		}
	}
	for _, k := range []int{math.MinInt, math.MinInt32, 256, greatest, greatest + 1, 1 << 32, math.MaxInt} {
		f := sample()
		f.Blocks[0].Ops[2].Kind = k
		checkPrint(t, f, "", api.Arg)
		f = sample()
		f.Blocks[0].End.Kind = k
		checkPrint(t, f, "", api.Arg)
	}
}

func TestPrintOfWhatMayNotBeTold(t *testing.T) {
	broken := []func(f *api.Func){
		func(f *api.Func) { f.Blocks = nil },
		func(f *api.Func) { f.Blocks = make([]api.Block, 65) },
		func(f *api.Func) { f.Params = repeat(17, 8) },
		func(f *api.Func) { f.Params[2] = -1 },
		func(f *api.Func) { f.Params[0] = greatest + 1 },
		func(f *api.Func) { f.Ret = -1 },
		func(f *api.Func) { f.Ret = greatest + 1 },
		func(f *api.Func) { f.Blocks[1].Phis[0].Bits = -1 },
		func(f *api.Func) { f.Blocks[1].Phis[1].Dst = greatest + 1 },
		func(f *api.Func) { f.Blocks[1].Phis[0].From[1] = -7 },
		func(f *api.Func) { f.Blocks[1].Phis[0].Args = repeat(65, 1) },
		func(f *api.Func) { f.Blocks[0].Ops[1].Bits = math.MinInt },
		func(f *api.Func) { f.Blocks[0].Ops[0].Lanes = 1 << 32 },
		func(f *api.Func) { f.Blocks[0].Ops[0].Dst = math.MaxInt },
		func(f *api.Func) { f.Blocks[0].Ops[0].Args = repeat(65, 1) },
		func(f *api.Func) { f.Blocks[3].End.Arg = -1 },
		func(f *api.Func) { f.Blocks[3].End.To = []int{-1} },
		func(f *api.Func) { f.Blocks[3].End.To = repeat(65, 1) },
		func(f *api.Func) { f.Blocks[2].Ops = make([]api.Op, 502) },
		func(f *api.Func) { f.Blocks[2].Phis = make([]api.Phi, 503) },
	}
	for i, breaks := range broken {
		f := sample()
		breaks(&f)
		if code.May(f) {
			t.Errorf("P5.1: %d may be told", i)
		}
		checkPrint(t, f, "", api.Arg)
	}
	checkPrint(t, api.Func{}, "", api.Arg)
}

func TestPrintAtTheLimits(t *testing.T) {
	for _, n := range []int{510, 511, 512, 513} {
		for _, f := range []api.Func{bulk(n, 0), bulk(0, n), bulk(n-200, 200)} {
			if n < 512 {
				checkPrint(t, f, spell(f), api.OK)
			} else {
				checkPrint(t, f, "", api.Arg)
			}
		}
	}
}

func TestPrintOfAnyImm(t *testing.T) {
	for _, v := range []uint64{0, 1, 9, 10, 255, greatest, greatest + 1, 1 << 32, 1<<63 - 1, 1 << 63, math.MaxUint64} {
		f := five()
		f.Blocks[0].Ops[0].Imm = v
		checkPrint(t, f, strings.Replace(fiveText, "() 5", "() "+strconv.FormatUint(v, 10), 1), api.OK)
	}
}

// Rule 3

func TestNothingHandedInIsChanged(t *testing.T) {
	f := sample()
	spare := []int{64, 8, 1, 77, 78}
	f.Params = spare[:3]
	s, _ := text.Print(f)
	if !code.Same(f, sample()) || !slices.Equal(spare, []int{64, 8, 1, 77, 78}) {
		t.Error("P5.1: what was handed in was changed")
	}
	clear(spare)
	if s != sampleText {
		t.Error("P5.1: the text hangs on what was handed in")
	}
}

func TestNoListsOfAnAnswerAreShared(t *testing.T) {
	f, _ := text.Parse(sampleText)
	for i, l := range lists(f) {
		spare := l[:cap(l)]
		for n := range spare {
			spare[n] = 1000 + i
		}
	}
	for i, l := range lists(f) {
		for _, v := range l {
			if v != 1000+i {
				t.Fatalf("P5.2: list %d was written to by another one", i)
			}
		}
	}
	if g, _ := text.Parse(sampleText); !bytes.Equal(code.Encode(g), code.Encode(sample())) {
		t.Error("P5.2: a function hangs on another one")
	}
}

func lists(f api.Func) [][]int {
	all := [][]int{f.Params}
	for _, k := range f.Blocks {
		for _, p := range k.Phis {
			all = append(all, p.From, p.Args)
		}
		for _, o := range k.Ops {
			all = append(all, o.Args)
		}
		all = append(all, k.End.To)
	}
	return all
}
