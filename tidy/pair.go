package tidy

import (
	"slices"

	"lockstep/api"
	"lockstep/graph"
)

// pair is two blocks that are one: x ends with a Jump to y, and x alone goes on
// there.
type pair struct {
	x, y   int
	became map[int]int // what y's phis became
}

// first gives the first blocks that are one, in a function that is right, and
// tells whether there are any.
func first(f api.Func) (*pair, bool) {
	g, _ := graph.Of(f)
	for x, k := range f.Blocks {
		if k.End.Kind != api.Jump {
			continue
		}
		// x is one of those that go on at y, so that of one alone it is this one.
		if y := k.End.To[0]; y != x && len(g.Pred[y]) == 1 {
			return &pair{x: x, y: y}, true
		}
	}
	return nil, false
}

// madeOne gives the function with the two made one.
func (p *pair) madeOne(f api.Func) api.Func {
	x, y := f.Blocks[p.x], f.Blocks[p.y]
	p.became = map[int]int{}
	for _, phi := range y.Phis {
		p.became[phi.Dst] = p.value(phi.Args[0])
	}
	x.Ops, x.End = slices.Concat(x.Ops, y.Ops), y.End
	g := api.Func{Params: f.Params, Ret: f.Ret}
	for at, k := range f.Blocks {
		switch at {
		case p.x:
			g.Blocks = append(g.Blocks, p.block(x))
		case p.y:
		default:
			g.Blocks = append(g.Blocks, p.block(k))
		}
	}
	return g
}

// value gives what became of a value.
func (p *pair) value(v int) int {
	if now, is := p.became[v]; is {
		return now
	}
	return v
}

// place gives what became of a block's place: y's is that of x, and those behind
// y stand one ahead.
func (p *pair) place(at int) int {
	if at == p.y {
		at = p.x
	}
	if at > p.y {
		at--
	}
	return at
}

// block gives a block with what became of its values and places.
func (p *pair) block(k api.Block) api.Block {
	phis := make([]api.Phi, len(k.Phis))
	for i, phi := range k.Phis {
		phis[i] = p.phi(phi)
	}
	ops := make([]api.Op, len(k.Ops))
	for i, o := range k.Ops {
		o.Args = each(o.Args, p.value)
		ops[i] = o
	}
	e := api.End{Kind: k.End.Kind, Arg: p.value(k.End.Arg), To: each(k.End.To, p.place)}
	return api.Block{Phis: phis, Ops: ops, End: e}
}

// phi gives a phi likewise. Its From are put where they are rising again, for x
// may stand elsewhere than y.
func (p *pair) phi(phi api.Phi) api.Phi {
	var from, args []int
	for i, at := range phi.From {
		at = p.place(at)
		to, _ := slices.BinarySearch(from, at)
		from, args = slices.Insert(from, to, at), slices.Insert(args, to, p.value(phi.Args[i]))
	}
	phi.From, phi.Args = from, args
	return phi
}

// each gives what something makes of each of a list.
func each(list []int, made func(int) int) []int {
	out := make([]int, len(list))
	for i, v := range list {
		out[i] = made(v)
	}
	return out
}
