package alias_test

import (
	"math/rand"
	"slices"

	"lockstep/api"
	"lockstep/dom"
	"lockstep/graph"
	"lockstep/kind"
	"lockstep/word"
)

var widths = []int{1, 8, 16, 32, 64}

// def is a value that is defined: in which block (a parameter in the first one),
// and its shape.
type def struct {
	v, block int
	shape    [2]int
}

// maker makes functions by chance, right at level Lanes, that mostly touch memory
// not far from one another.
type maker struct {
	r      *rand.Rand
	f      api.Func
	g      api.Graph
	tree   []int
	defs   []def
	places []def // those that mostly say where something is
}

// made gives a function of so many blocks, with up to so many operations each,
// and some that make places more.
func (m *maker) made(n, ops int) api.Func {
	m.f, m.defs, m.places = api.Func{Ret: 64}, nil, nil
	for i := range 1 + m.r.Intn(6) {
		m.f.Params = append(m.f.Params, m.width())
		m.define(i+1, 0, [2]int{m.f.Params[i], 1}, true)
	}
	m.ends(n)
	// Those that dominate others come first.
	for _, at := range graph.Order(m.g, 0) {
		m.phis(at)
		for range m.r.Intn(ops + 1) {
			m.op(at)
		}
		m.ask(at)
	}
	m.args()
	return m.f
}

// define keeps a value, and that it may be a place.
func (m *maker) define(v, at int, shape [2]int, place bool) {
	m.defs = append(m.defs, def{v, at, shape})
	if place && shape == [2]int{64, 1} {
		m.places = append(m.places, def{v, at, shape})
	}
}

// width is mostly that of addresses.
func (m *maker) width() int {
	if m.r.Intn(3) > 0 {
		return 64
	}
	return widths[m.r.Intn(len(widths))]
}

// ends makes blocks of ends alone, each of which can be reached.
func (m *maker) ends(n int) {
again:
	m.f.Blocks = make([]api.Block, n)
	for at := range m.f.Blocks {
		e := &m.f.Blocks[at].End
		if e.Kind = []int{api.Ret, api.Jump, api.If, api.If, api.If, api.Trap}[m.r.Intn(6)]; n == 1 {
			e.Kind = api.Ret
		}
		for range []int{0, 1, 2, 0}[e.Kind] {
			e.To = append(e.To, 1+m.r.Intn(n-1))
		}
	}
	m.g, _ = graph.Of(m.f)
	if len(graph.Order(m.g, 0)) < n {
		goto again
	}
	m.tree = dom.Tree(m.g, 0)
}

func (m *maker) fresh() int {
	for {
		v := 1 + m.r.Intn([]int{150, api.MaxValue}[m.r.Intn(2)])
		if !slices.ContainsFunc(m.defs, func(d def) bool { return d.v == v }) {
			return v
		}
	}
}

// some gives a value of a shape, of a list, that is defined at a block's end, or 0.
func (m *maker) some(list []def, at int, shape [2]int) int {
	var values []int
	for _, d := range list {
		if d.shape == shape && dom.Over(m.tree, d.block, at) {
			values = append(values, d.v)
		}
	}
	if len(values) == 0 {
		return 0
	}
	// Those that were defined last are asked for more often.
	return values[len(values)-1-m.r.Intn(1+m.r.Intn(len(values)))]
}

// pick gives a value of a shape that is defined at a block's end, so far: at
// times, and where there is none, a new one.
func (m *maker) pick(at int, shape [2]int) int {
	if v := m.some(m.defs, at, shape); v > 0 && m.r.Intn(9) > 0 {
		return v
	}
	return m.number(at, shape)
}

// number puts some constant at a block's end.
func (m *maker) number(at int, shape [2]int) int {
	n := []uint64{0, 1, 2, 8, 63, 64, mid, top, m.r.Uint64(), m.r.Uint64() >> m.r.Intn(64)}[m.r.Intn(10)]
	return m.constant(at, shape, word.Cut(n, shape[0]))
}

func (m *maker) constant(at int, shape [2]int, n uint64) int {
	return m.put(at, api.Op{Kind: api.Const, Bits: shape[0], Lanes: shape[1], Imm: n})
}

// address gives a place, mostly one not far from others.
func (m *maker) address(at int) int {
	v := m.some(m.places, at, [2]int{64, 1})
	switch {
	case m.r.Intn(20) == 0:
		return m.pick(at, [2]int{64, 1})
	case v == 0:
		v = m.constant(at, [2]int{64, 1}, 300+uint64(m.r.Intn(300)))
		m.places = append(m.places, m.defs[len(m.defs)-1])
		return v
	case m.r.Intn(2) == 0:
		return v
	}
	far := m.constant(at, [2]int{64, 1}, []uint64{0, 1, 2, 4, 4, 8, 8, 12, 16, uint64(m.r.Intn(20))}[m.r.Intn(10)])
	v = m.put(at, api.Op{Kind: []int{api.Add, api.Add, api.Sub}[m.r.Intn(3)], Bits: 64, Lanes: 1, Args: []int{v, far}})
	m.places = append(m.places, m.defs[len(m.defs)-1])
	return v
}

// put puts an operation behind those of a block, and gives the value that it
// defines.
func (m *maker) put(at int, o api.Op) int {
	o.Dst = 0
	if o.Kind != api.Store && o.Kind != api.Pstore {
		o.Dst = m.fresh()
		bits, lanes := kind.Gives(o)
		m.define(o.Dst, at, [2]int{bits, lanes}, false)
	}
	m.f.Blocks[at].Ops = append(m.f.Blocks[at].Ops, o)
	return o.Dst
}

func (m *maker) phis(at int) {
	for range m.r.Intn(4) {
		p := api.Phi{Bits: m.width(), Dst: m.fresh(), From: slices.Clone(m.g.Pred[at])}
		m.f.Blocks[at].Phis = append(m.f.Blocks[at].Phis, p)
		m.define(p.Dst, at, [2]int{p.Bits, 1}, true)
	}
}

func (m *maker) op(at int) {
	o := m.look()
	where := map[int]int{api.Load: 0, api.Store: 0, api.Pload: 1, api.Pstore: 1}
	for i, shape := range kind.Takes(o) {
		if place, touches := where[o.Kind]; touches && i == place {
			o.Args[i] = m.address(at)
			continue
		}
		o.Args[i] = m.pick(at, shape)
	}
	m.put(at, o)
}

// look gives an operation that looks right, with any arguments.
func (m *maker) look() api.Op {
	touches := m.r.Intn(5) > 1
	for {
		o := api.Op{Kind: m.r.Intn(api.Get + 1), Bits: widths[m.r.Intn(len(widths))], Lanes: 1 << m.r.Intn(5)}
		if touches {
			o.Kind = []int{api.Load, api.Store, api.Store, api.Pload, api.Pstore}[m.r.Intn(5)]
		}
		if o.Kind <= api.Pdiv && m.r.Intn(2) == 0 {
			o.Lanes = 1
		}
		o.Imm = []uint64{0, 0, 1, 3, 8, 16, 32, 64}[m.r.Intn(8)]
		for args := range 17 {
			for _, o.Dst = range []int{0, 1} {
				o.Args = slices.Repeat([]int{1}, args)
				if kind.May(o) {
					return o
				}
			}
		}
	}
}

// ask gives a block's end what it returns, or asks for.
func (m *maker) ask(at int) {
	e := &m.f.Blocks[at].End
	switch e.Kind {
	case api.Ret:
		e.Arg = m.pick(at, [2]int{m.f.Ret, 1})
	case api.If:
		e.Arg = m.pick(at, [2]int{1, 1})
	}
}

// args gives the phis theirs, when all else is there.
func (m *maker) args() {
	for _, k := range m.f.Blocks {
		for i := range k.Phis {
			p := &k.Phis[i]
			for _, from := range p.From {
				v := m.some(m.places, from, [2]int{p.Bits, 1})
				if v == 0 {
					v = m.pick(from, [2]int{p.Bits, 1})
				}
				p.Args = append(p.Args, v)
			}
		}
	}
}
