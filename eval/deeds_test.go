package eval_test

import (
	"encoding/binary"
	"math"
	"slices"
	"testing"

	"lockstep/api"
	"lockstep/eval"
	"lockstep/kind"
	"lockstep/mem"
	"lockstep/word"
)

var widths = []int{1, 8, 16, 32, 64}

func op(kind, bits, lanes, dst int, imm uint64, args ...int) api.Op {
	return api.Op{Kind: kind, Bits: bits, Lanes: lanes, Dst: dst, Imm: imm, Args: args}
}

// block is a function of one block, that returns a value.
func block(params []int, ret, v int, ops ...api.Op) api.Func {
	return api.Func{Params: params, Ret: ret, Blocks: []api.Block{{Ops: ops, End: api.End{Kind: api.Ret, Arg: v}}}}
}

// edges are numbers of a width at which something may go wrong.
func edges(bits int) []uint64 {
	top := uint64(1) << (bits - 1)
	list := []uint64{0, 1, 2, 7, 8, 15, 16, 31, 32, 63, 64, 100, 200, top - 1, top, top + 1, top - 1 + top, math.MaxUint64 / 3}
	for i := range list {
		list[i] = word.Cut(list[i], bits)
	}
	slices.Sort(list)
	return slices.Compact(list)
}

// shapes are those of what lies in memory, of at least so many lanes.
func shapes(least int) [][2]int {
	var list [][2]int
	for _, bits := range widths[1:] {
		for lanes := least; lanes <= 16; lanes *= 2 {
			if kind.Shape(bits, lanes) {
				list = append(list, [2]int{bits, lanes})
			}
		}
	}
	return list
}

// row is numbers of a width as bytes.
func row(bits int, list ...uint64) []byte {
	var b []byte
	for _, v := range list {
		b = append(b, binary.LittleEndian.AppendUint64(nil, v)[:bits/8]...)
	}
	return b
}

// some gives n numbers of a width, from a place of the edges on, round.
func some(bits, n, from int) []uint64 {
	list := make([]uint64, n)
	for i := range list {
		list[i] = edges(bits)[(from+i)%len(edges(bits))]
	}
	return list
}

// P13.1: Add to Slt

func TestTwoOfOneLane(t *testing.T) {
	for k := api.Add; k <= api.Slt; k++ {
		for _, bits := range widths {
			ret := bits
			if k == api.Eq || k == api.Ult || k == api.Slt {
				ret = 1
			}
			f := block([]int{bits, bits}, ret, 3, op(k, bits, 1, 3, 0, 1, 2))
			for _, a := range edges(bits) {
				for _, b := range edges(bits) {
					want := trapped(1)
					if v, e := word.Do(k, bits, a, b); e == api.OK {
						want = returned(v, 2)
					}
					checkRun(t, given{f, []uint64{a, b}, nil, plenty}, came{run: want})
				}
			}
		}
	}
}

// By hand, so that not all hangs on layer 1.
func TestSomeOfTwo(t *testing.T) {
	for _, x := range []struct {
		kind, bits int
		want       uint64
	}{
		{api.Add, 8, 44}, {api.Sub, 8, 100}, {api.Mul, 8, 32}, {api.Div, 8, 2}, {api.And, 8, 64}, {api.Or, 8, 236}, {api.Xor, 8, 172},
		{api.Shl, 8, 0}, {api.Shr, 8, 0}, {api.Eq, 8, 0}, {api.Ult, 8, 0}, {api.Slt, 8, 1}, {api.Slt, 16, 0}, {api.Add, 16, 300}, {api.Mul, 32, 20000},
	} {
		ret := x.bits
		if x.kind >= api.Eq {
			ret = 1
		}
		f := block([]int{x.bits, x.bits}, ret, 3, op(x.kind, x.bits, 1, 3, 0, 1, 2))
		checkRun(t, given{f, []uint64{200, 100}, nil, plenty}, came{run: returned(x.want, 2)})
	}
}

func TestTwoLaneByLane(t *testing.T) {
	for k := api.Add; k <= api.Shr; k++ {
		if k == api.Div {
			continue
		}
		for _, s := range shapes(2) {
			bits, n := s[0], s[1]
			size := uint64(bits * n / 8)
			f := block([]int{64, 64, 64}, 64, 1, op(api.Load, bits, n, 4, 0, 1), op(api.Load, bits, n, 5, 0, 2), op(k, bits, n, 6, 0, 4, 5), op(api.Store, bits, n, 0, 0, 3, 6))
			for from := range edges(bits) {
				a, b := some(bits, n, from), some(bits, n, 3*from+1)
				sum := make([]uint64, n)
				for i := range sum {
					sum[i], _ = word.Do(k, bits, a[i], b[i])
				}
				x, y, z := row(bits, a...), row(bits, b...), row(bits, sum...)
				want := came{returned(0, 5), slices.Concat(x, y, z), slices.Concat(reads(0, x...), reads(size, y...), writes(2*size, z...))}
				checkRun(t, given{f, []uint64{0, size, 2 * size}, slices.Concat(x, y, make([]byte, size)), plenty}, want)
			}
		}
	}
}

// P13.1: Const, Select, Zext, Trunc

func TestConst(t *testing.T) {
	for _, bits := range widths {
		for _, v := range edges(bits) {
			checkRun(t, given{block(nil, bits, 1, op(api.Const, bits, 1, 1, v)), nil, nil, plenty}, came{run: returned(v, 2)})
		}
	}
	for _, s := range shapes(1) {
		bits, n := s[0], s[1]
		for _, v := range edges(bits) {
			f := block([]int{64}, 64, 1, op(api.Const, bits, n, 2, v), op(api.Store, bits, n, 0, 0, 1, 2))
			b := row(bits, slices.Repeat([]uint64{v}, n)...)
			checkRun(t, given{f, []uint64{1}, make([]byte, 1+len(b)), plenty}, came{returned(1, 3), append([]byte{0}, b...), writes(1, b...)})
		}
	}
}

func TestSelect(t *testing.T) {
	for _, bits := range widths {
		f := block([]int{1, bits, bits}, bits, 4, op(api.Select, bits, 1, 4, 0, 1, 2, 3))
		for _, a := range edges(bits) {
			for _, b := range edges(bits) {
				checkRun(t, given{f, []uint64{1, a, b}, nil, plenty}, came{run: returned(a, 2)})
				checkRun(t, given{f, []uint64{0, a, b}, nil, plenty}, came{run: returned(b, 2)})
			}
		}
	}
	for _, s := range shapes(2) {
		bits, n := s[0], s[1]
		size := uint64(bits * n / 8)
		f := block([]int{1, 64, 64}, 1, 1, op(api.Load, bits, n, 4, 0, 2), op(api.Load, bits, n, 5, 0, 3), op(api.Select, bits, n, 6, 0, 1, 4, 5), op(api.Store, bits, n, 0, 0, 2, 6))
		x, y := row(bits, some(bits, n, 1)...), row(bits, some(bits, n, 5)...)
		for so, z := range [][]byte{y, x} {
			want := came{returned(uint64(so), 5), slices.Concat(z, y), slices.Concat(reads(0, x...), reads(size, y...), writes(0, z...))}
			checkRun(t, given{f, []uint64{uint64(so), 0, size}, slices.Concat(x, y), plenty}, want)
		}
	}
}

func TestOtherWidths(t *testing.T) {
	for _, from := range widths {
		for _, to := range widths {
			for _, v := range edges(from) {
				switch {
				case to > from:
					checkRun(t, given{block([]int{from}, to, 2, op(api.Zext, to, 1, 2, uint64(from), 1)), []uint64{v}, nil, plenty}, came{run: returned(v, 2)})
				case to < from:
					checkRun(t, given{block([]int{from}, to, 2, op(api.Trunc, to, 1, 2, uint64(from), 1)), []uint64{v}, nil, plenty}, came{run: returned(word.Cut(v, to), 2)})
				}
			}
		}
	}
}

// P13.1: Pack, Get

func TestPackAndGet(t *testing.T) {
	for _, s := range shapes(2) {
		bits, n := s[0], s[1]
		params, args := slices.Repeat([]int{bits}, n-1), make([]int, n)
		list := some(bits, n-1, 2)
		// From the last value on, and that once more.
		for i := range args {
			args[i] = n - 1 - i
		}
		args[n-1] = n - 1
		for lane, v := range args {
			f := block(params, bits, 91, op(api.Pack, bits, n, 90, 0, args...), op(api.Get, bits, n, 91, uint64(lane), 90))
			checkRun(t, given{f, list, nil, plenty}, came{run: returned(list[v-1], 3)})
		}
	}
}

func TestGetOfWhatIsLoaded(t *testing.T) {
	for _, s := range shapes(2) {
		bits, n := s[0], s[1]
		list := some(bits, n, 4)
		b := row(bits, list...)
		for lane, v := range list {
			f := block([]int{64}, bits, 3, op(api.Load, bits, n, 2, 0, 1), op(api.Get, bits, n, 3, uint64(lane), 2))
			checkRun(t, given{f, []uint64{0}, b, plenty}, came{returned(v, 3), b, reads(0, b...)})
		}
	}
}

// P13.1: Load, Store

func TestLoadAndStore(t *testing.T) {
	for _, s := range shapes(1) {
		bits, n := s[0], s[1]
		size := bits * n / 8
		f := block([]int{64, 64}, 64, 2, op(api.Load, bits, n, 3, 0, 1), op(api.Store, bits, n, 0, 0, 2, 3))
		b := counted(40)
		for _, at := range [][2]int{{0, 20}, {20, 0}, {5, 5}, {3, 4}, {4, 3}, {40 - size, 0}, {0, 40 - size}} {
			was := slices.Clone(b[at[0] : at[0]+size])
			to := slices.Clone(b)
			copy(to[at[1]:], was)
			want := came{returned(uint64(at[1]), 3), to, slices.Concat(reads(uint64(at[0]), was...), writes(uint64(at[1]), was...))}
			checkRun(t, given{f, []uint64{uint64(at[0]), uint64(at[1])}, b, plenty}, want)
		}
	}
}

// What a Load gave stays what it was, though something else is stored there.
func TestWhatIsLoadedStays(t *testing.T) {
	f := block([]int{64, 8}, 8, 3, op(api.Load, 8, 1, 3, 0, 1), op(api.Store, 8, 1, 0, 0, 1, 2), op(api.Load, 8, 1, 4, 0, 1), op(api.Store, 8, 1, 0, 0, 1, 3))
	checkRun(t, given{f, []uint64{1, 50}, []byte{6, 7}, plenty}, came{returned(7, 5), []byte{6, 7}, slices.Concat(reads(1, 7), writes(1, 50), reads(1, 50), writes(1, 7))})
}

// Of the numbers those ahead of the first that isn't there are touched.
func TestTrapsInMemory(t *testing.T) {
	for _, s := range shapes(1) {
		bits, n := s[0], s[1]
		load := block([]int{64}, 64, 1, op(api.Load, bits, n, 2, 0, 1))
		store := block([]int{64}, 64, 1, op(api.Const, bits, n, 2, 0), op(api.Store, bits, n, 0, 0, 1, 2))
		b := counted(35)
		for at := range uint64(40) {
			there := 0
			for i := range n {
				if int(at)+(i+1)*bits/8 <= len(b) {
					there = (i + 1) * bits / 8
				}
			}
			from := min(int(at), len(b))
			touched := b[from : from+there]
			wantLoad, wantStore := came{trapped(1), b, reads(at, touched...)}, came{trapped(2), slices.Clone(b), writes(at, make([]byte, there)...)}
			if clear(wantStore.bytes[from : from+there]); there == n*bits/8 {
				wantLoad.run, wantStore.run = returned(at, 2), returned(at, 3)
			}
			checkRun(t, given{load, []uint64{at}, b, plenty}, wantLoad)
			checkRun(t, given{store, []uint64{at}, b, plenty}, wantStore)
		}
	}
}

// No address wraps.
func TestAddressesThatAreGreat(t *testing.T) {
	b := counted(api.MaxMem)
	for _, s := range shapes(1) {
		bits, n := s[0], s[1]
		load := block([]int{64}, 64, 1, op(api.Load, bits, n, 2, 0, 1))
		store := block([]int{64}, 64, 1, op(api.Const, bits, n, 2, 0), op(api.Store, bits, n, 0, 0, 1, 2))
		for _, at := range []uint64{api.MaxMem, api.MaxMem + 1, 1 << 32, 1<<32 + 5, 1 << 63, math.MaxUint64 - 15, math.MaxUint64 - 7, math.MaxUint64 - 1, math.MaxUint64} {
			checkRun(t, given{load, []uint64{at}, b, plenty}, came{run: trapped(1), bytes: b})
			checkRun(t, given{store, []uint64{at}, b, plenty}, came{run: trapped(2), bytes: b})
		}
	}
}

// P13.1: Pload, Pstore, Pdiv

func TestPload(t *testing.T) {
	for _, bits := range widths[1:] {
		size := bits / 8
		f := block([]int{1, 64, bits}, bits, 4, op(api.Pload, bits, 1, 4, 0, 1, 2, 3))
		b := counted(12)
		for _, last := range edges(bits) {
			at := uint64(12 - size)
			v := binary.LittleEndian.Uint64(append(slices.Clone(b[at:]), make([]byte, 8)...))
			checkRun(t, given{f, []uint64{1, at, last}, b, plenty}, came{returned(v, 2), b, reads(at, b[at:]...)})
			checkRun(t, given{f, []uint64{1, at + 1, last}, b, plenty}, came{run: trapped(1), bytes: b})
			for _, at = range []uint64{0, at, at + 1, 12, math.MaxUint64} {
				checkRun(t, given{f, []uint64{0, at, last}, b, plenty}, came{run: returned(last, 2), bytes: b})
			}
		}
	}
}

func TestPstore(t *testing.T) {
	for _, bits := range widths[1:] {
		size := bits / 8
		f := block([]int{1, 64, bits}, bits, 3, op(api.Pstore, bits, 1, 0, 0, 1, 2, 3))
		b := counted(12)
		for _, v := range edges(bits) {
			at := uint64(12 - size)
			x := row(bits, v)
			checkRun(t, given{f, []uint64{1, at, v}, b, plenty}, came{returned(v, 2), slices.Concat(b[:at], x), writes(at, x...)})
			checkRun(t, given{f, []uint64{1, at + 1, v}, b, plenty}, came{run: trapped(1), bytes: b})
			for _, at = range []uint64{0, at, at + 1, 12, math.MaxUint64} {
				checkRun(t, given{f, []uint64{0, at, v}, b, plenty}, came{run: returned(v, 2), bytes: b})
			}
		}
	}
}

func TestPdiv(t *testing.T) {
	for _, bits := range widths {
		f := block([]int{1, bits, bits, bits}, bits, 5, op(api.Pdiv, bits, 1, 5, 0, 1, 2, 3, 4))
		for _, a := range edges(bits) {
			for _, b := range edges(bits) {
				last := word.Cut(a+3, bits)
				want := trapped(1)
				if b > 0 {
					want = returned(a/b, 2)
				}
				checkRun(t, given{f, []uint64{1, a, b, last}, nil, plenty}, came{run: want})
				checkRun(t, given{f, []uint64{0, a, b, last}, nil, plenty}, came{run: returned(last, 2)})
			}
		}
	}
}

// P13.1: no memory

func TestMemoryWithoutBytes(t *testing.T) {
	load := block([]int{64}, 64, 2, op(api.Load, 64, 1, 2, 0, 1))
	checkRun(t, given{load, []uint64{0}, nil, plenty}, came{run: trapped(1)})
	f := block([]int{64}, 64, 1, op(api.Const, 8, 16, 2, 5), op(api.Store, 8, 16, 0, 0, 1, 2))
	checkRun(t, given{f, []uint64{0}, nil, plenty}, came{run: trapped(2)})
	checkRun(t, given{block([]int{64}, 64, 1), []uint64{9}, nil, plenty}, came{run: returned(9, 1)})
}

// New answers none beside Size; that is one without bytes.
func TestNoMemory(t *testing.T) {
	none, _ := mem.New(make([]byte, api.MaxMem+1))
	for _, x := range []struct {
		f    api.Func
		want api.Run
	}{
		{block([]int{64}, 64, 2, op(api.Load, 64, 1, 2, 0, 1)), trapped(1)},
		{block([]int{64}, 64, 1, op(api.Store, 64, 1, 0, 0, 1, 1)), trapped(1)},
		{block([]int{64}, 64, 1), returned(0, 1)},
	} {
		if r, e := eval.Run(x.f, []uint64{0}, none, plenty); e != api.OK || r != x.want {
			t.Errorf("P13.1: %v without a memory: %v %v, not %v", x.f, r, e, x.want)
		}
	}
}
