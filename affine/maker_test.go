package affine_test

import (
	"math/rand"
	"slices"

	"lockstep/api"
	"lockstep/dom"
	"lockstep/graph"
	"lockstep/kind"
	"lockstep/word"
)

var widths = []int{1, 8, 16, 32, 64}

// def is a value that is defined: in which block (a parameter in the first one),
// and its shape.
type def struct {
	v, block int
	shape    [2]int
}

// maker makes functions by chance, right at level Lanes, that mostly make sums of
// 64 bits.
type maker struct {
	r    *rand.Rand
	f    api.Func
	g    api.Graph
	tree []int
	defs []def
}

// made gives a function of so many blocks, with up to so many operations each,
// and some constants more.
func (m *maker) made(n, ops int) api.Func {
	m.f, m.defs = api.Func{Ret: 64}, nil
	for i := range 1 + m.r.Intn(6) {
		m.f.Params = append(m.f.Params, m.width())
		m.defs = append(m.defs, def{i + 1, 0, [2]int{m.f.Params[i], 1}})
	}
	m.ends(n)
	// Those that dominate others come first.
	for _, at := range graph.Order(m.g, 0) {
		m.phis(at)
		for range m.r.Intn(ops + 1) {
			m.op(at)
		}
		m.ask(at)
	}
	m.args()
	return m.f
}

// width is mostly that of addresses.
func (m *maker) width() int {
	if m.r.Intn(3) > 0 {
		return 64
	}
	return widths[m.r.Intn(len(widths))]
}

// ends makes blocks of ends alone, each of which can be reached.
func (m *maker) ends(n int) {
again:
	m.f.Blocks = make([]api.Block, n)
	for at := range m.f.Blocks {
		e := &m.f.Blocks[at].End
		if e.Kind = []int{api.Ret, api.Jump, api.If, api.If, api.If, api.Trap}[m.r.Intn(6)]; n == 1 {
			e.Kind = api.Ret
		}
		for range []int{0, 1, 2, 0}[e.Kind] {
			e.To = append(e.To, 1+m.r.Intn(n-1))
		}
	}
	m.g, _ = graph.Of(m.f)
	if len(graph.Order(m.g, 0)) < n {
		goto again
	}
	m.tree = dom.Tree(m.g, 0)
}

func (m *maker) fresh() int {
	for {
		v := 1 + m.r.Intn([]int{150, api.MaxValue}[m.r.Intn(2)])
		if !slices.ContainsFunc(m.defs, func(d def) bool { return d.v == v }) {
			return v
		}
	}
}

// pick gives a value of a shape that is defined at a block's end, so far: at
// times, and where there is none, a new one.
func (m *maker) pick(at int, shape [2]int) int {
	var list []int
	for _, d := range m.defs {
		if d.shape == shape && dom.Over(m.tree, d.block, at) {
			list = append(list, d.v)
		}
	}
	if len(list) > 0 && m.r.Intn(9) > 0 {
		// Those that were defined last are asked for more often.
		return list[len(list)-1-m.r.Intn(1+m.r.Intn(len(list)))]
	}
	return m.number(at, shape)
}

// number puts some constant at a block's end.
func (m *maker) number(at int, shape [2]int) int {
	n := []uint64{0, 1, 2, 8, 63, 64, mid, top, m.r.Uint64(), m.r.Uint64() >> m.r.Intn(64)}[m.r.Intn(10)]
	return m.constant(at, shape, word.Cut(n, shape[0]))
}

func (m *maker) constant(at int, shape [2]int, n uint64) int {
	return m.put(at, api.Op{Kind: api.Const, Bits: shape[0], Lanes: shape[1], Imm: n})
}

// address gives a value that mostly says where something is, ahead of what tells
// of values.
func (m *maker) address(at int) int {
	if m.r.Intn(8) == 0 {
		return m.pick(at, [2]int{64, 1})
	}
	return m.constant(at, [2]int{64, 1}, uint64(m.r.Intn(teller-16)))
}

// put puts an operation behind those of a block, and gives the value that it
// defines.
func (m *maker) put(at int, o api.Op) int {
	o.Dst = 0
	if o.Kind != api.Store && o.Kind != api.Pstore {
		o.Dst = m.fresh()
		bits, lanes := kind.Gives(o)
		m.defs = append(m.defs, def{o.Dst, at, [2]int{bits, lanes}})
	}
	m.f.Blocks[at].Ops = append(m.f.Blocks[at].Ops, o)
	return o.Dst
}

func (m *maker) phis(at int) {
	for range m.r.Intn(4) {
		p := api.Phi{Bits: m.width(), Dst: m.fresh(), From: slices.Clone(m.g.Pred[at])}
		m.f.Blocks[at].Phis = append(m.f.Blocks[at].Phis, p)
		m.defs = append(m.defs, def{p.Dst, at, [2]int{p.Bits, 1}})
	}
}

func (m *maker) op(at int) {
	o := m.look()
	where := map[int]int{api.Load: 0, api.Store: 0, api.Pload: 1, api.Pstore: 1}
	for i, shape := range kind.Takes(o) {
		if place, touches := where[o.Kind]; touches && i == place {
			o.Args[i] = m.address(at)
			continue
		}
		o.Args[i] = m.pick(at, shape)
	}
	// Some by a number, for that is what most products have.
	if (o.Kind == api.Mul || o.Kind == api.Shl) && o.Bits == 64 && o.Lanes == 1 && m.r.Intn(2) == 0 {
		place := 1
		if o.Kind == api.Mul {
			place = m.r.Intn(2)
		}
		o.Args[place] = m.number(at, [2]int{64, 1})
	}
	m.put(at, o)
}

// look gives an operation that looks right, with any arguments.
func (m *maker) look() api.Op {
	if m.r.Intn(4) > 0 {
		does := []int{api.Add, api.Add, api.Add, api.Sub, api.Sub, api.Mul, api.Shl}[m.r.Intn(7)]
		return api.Op{Kind: does, Bits: 64, Lanes: 1, Dst: 1, Args: []int{1, 1}}
	}
	for {
		o := api.Op{Kind: m.r.Intn(api.Get + 1), Bits: m.width(), Lanes: 1 << m.r.Intn(5)}
		if o.Kind <= api.Pdiv && m.r.Intn(2) == 0 {
			o.Lanes = 1
		}
		o.Imm = []uint64{0, 0, 1, 3, 8, 16, 32, 64}[m.r.Intn(8)]
		for args := range 17 {
			for _, o.Dst = range []int{0, 1} {
				o.Args = slices.Repeat([]int{1}, args)
				if kind.May(o) {
					return o
				}
			}
		}
	}
}

// ask gives a block's end what it returns, or asks for.
func (m *maker) ask(at int) {
	e := &m.f.Blocks[at].End
	switch e.Kind {
	case api.Ret:
		e.Arg = m.pick(at, [2]int{m.f.Ret, 1})
	case api.If:
		e.Arg = m.pick(at, [2]int{1, 1})
	}
}

// args gives the phis theirs, when all else is there.
func (m *maker) args() {
	for _, k := range m.f.Blocks {
		for i := range k.Phis {
			p := &k.Phis[i]
			for _, from := range p.From {
				p.Args = append(p.Args, m.pick(from, [2]int{p.Bits, 1}))
			}
		}
	}
}
