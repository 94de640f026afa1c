package ifconv_test

import (
	"maps"
	"slices"

	"lockstep/api"
	"lockstep/hammock"
)

// again merges a hammock anew, by the chapter's words.
type again struct {
	ops  []api.Op
	last int
}

// remade gives a function with a hammock merged that can be, and tells whether
// it isn't too great.
func remade(f api.Func, h api.Hammock) (api.Func, bool) {
	a := &again{last: greatest(f)}
	c := f.Blocks[h.At].End.Arg
	a.ops = slices.Concat(f.Blocks[h.At].Ops)
	if h.Then != -1 {
		a.side(f.Blocks[h.Then].Ops, c)
	}
	if h.Else != -1 {
		if slices.ContainsFunc(f.Blocks[h.Else].Ops, touchesOrTraps) {
			a.value(api.Const, 1, 1)
			a.value(api.Xor, 1, 0, c, a.last)
		}
		a.side(f.Blocks[h.Else].Ops, a.last)
	}
	g := a.blocks(f, h)
	n := 0
	for _, k := range g.Blocks {
		n += len(k.Phis) + len(k.Ops) + 1
	}
	return g, a.last <= 1023 && n <= 512
}

func greatest(f api.Func) int {
	last := len(f.Params)
	for _, k := range f.Blocks {
		for _, p := range k.Phis {
			last = max(last, p.Dst)
		}
		for _, o := range k.Ops {
			last = max(last, o.Dst)
		}
	}
	return last
}

func touchesOrTraps(o api.Op) bool {
	return slices.Contains([]int{api.Div, api.Load, api.Store, api.Pload, api.Pstore, api.Pdiv}, o.Kind)
}

func (a *again) value(kind, bits int, imm uint64, args ...int) int {
	a.last++
	a.ops = append(a.ops, api.Op{Kind: kind, Bits: bits, Lanes: 1, Dst: a.last, Args: args, Imm: imm})
	return a.last
}

func (a *again) side(ops []api.Op, guard int) {
	for _, o := range ops {
		args := slices.Concat([]int{guard}, o.Args)
		switch o.Kind {
		case api.Load, api.Div:
			o.Kind = map[int]int{api.Load: api.Pload, api.Div: api.Pdiv}[o.Kind]
			o.Args = append(args, a.value(api.Const, o.Bits, 0))
		case api.Store:
			o.Kind, o.Args = api.Pstore, args
		case api.Pload, api.Pstore, api.Pdiv:
			o.Args = slices.Concat([]int{a.value(api.And, 1, 0, o.Args[0], guard)}, o.Args[1:])
		}
		a.ops = append(a.ops, o)
	}
}

// blocks gives the blocks that are kept, by what was theirs.
func (a *again) blocks(f api.Func, h api.Hammock) api.Func {
	var kept []int
	for at := range f.Blocks {
		if at != h.Then && at != h.Else {
			kept = append(kept, at)
		}
	}
	g := api.Func{Params: f.Params, Ret: f.Ret}
	for _, at := range kept {
		k := api.Block{Ops: f.Blocks[at].Ops, End: f.Blocks[at].End}
		if at == h.At {
			k.End = api.End{Kind: api.Jump, To: []int{h.Join}}
		}
		k.End.To = places(kept, k.End.To)
		for _, p := range f.Blocks[at].Phis {
			k.Phis = append(k.Phis, a.phi(p, kept, h, at == h.Join, f.Blocks[h.At].End.Arg))
		}
		g.Blocks = append(g.Blocks, k)
	}
	g.Blocks[slices.Index(kept, h.At)].Ops = a.ops
	return g
}

func places(kept, list []int) []int {
	var moved []int
	for _, at := range list {
		moved = append(moved, slices.Index(kept, at))
	}
	return moved
}

// phi gives a phi, by where one comes from now: those that are gone stand at -1.
func (a *again) phi(p api.Phi, kept []int, h api.Hammock, meets bool, c int) api.Phi {
	was, comes := map[int]int{}, map[int]int{}
	for i, at := range p.From {
		was[at] = p.Args[i]
		comes[slices.Index(kept, at)] = p.Args[i]
	}
	if meets {
		was[-1] = was[h.At]
		v := was[h.Then]
		if was[h.Else] != v {
			v = a.value(api.Select, p.Bits, 0, c, v, was[h.Else])
		}
		comes[slices.Index(kept, h.At)] = v
	}
	delete(comes, -1)
	p.From, p.Args = slices.Sorted(maps.Keys(comes)), nil
	for _, at := range p.From {
		p.Args = append(p.Args, comes[at])
	}
	return p
}

// remadeAll gives a function in which all that costs at most most is merged.
func remadeAll(f api.Func, most int) api.Func {
	for _, h := range hammock.All(f) {
		ops := between(f, h)
		if len(ops) > most || slices.ContainsFunc(ops, isWide) {
			continue
		}
		if g, fits := remade(f, h); fits {
			return remadeAll(g, most)
		}
	}
	return f
}

func between(f api.Func, h api.Hammock) []api.Op {
	var ops []api.Op
	for at, k := range f.Blocks {
		if at == h.Then || at == h.Else {
			ops = slices.Concat(ops, k.Ops)
		}
	}
	return ops
}

func isWide(o api.Op) bool { return o.Lanes > 1 }
