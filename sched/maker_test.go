package sched_test

import (
	"math/rand"
	"slices"

	"lockstep/api"
	"lockstep/dom"
	"lockstep/graph"
	"lockstep/kind"
	"lockstep/word"
)

var widths = []int{1, 8, 16, 32, 64}

// def is a value that is defined: in which block (a parameter in the first one),
// and its shape.
type def struct {
	v, block int
	shape    [2]int
}

// maker makes functions by chance, right at a level, that mostly touch what is
// there of so many bytes.
type maker struct {
	r     *rand.Rand
	size  int
	level int
	f     api.Func
	g     api.Graph
	tree  []int
	defs  []def
}

// made gives a function of so many blocks, with up to so many operations each, and
// those that make what these, phis or ends ask for.
func (m *maker) made(n, ops int) api.Func {
	m.level = m.r.Intn(3)
	m.f = api.Func{Params: []int{1, 1, 8, 64}, Ret: m.width()}
	m.f.Params = append(m.f.Params, widths[:m.r.Intn(5)]...)
	m.defs = nil
	for i, bits := range m.f.Params {
		m.defs = append(m.defs, def{i + 1, 0, [2]int{bits, 1}})
	}
	m.ends(n)
	// Those that dominate others come first.
	for _, at := range graph.Order(m.g, 0) {
		m.phis(at)
		for range m.r.Intn(ops + 1) {
			m.op(at)
		}
		m.ask(at)
	}
	m.args()
	return m.f
}

func (m *maker) width() int { return widths[m.r.Intn(len(widths))] }

// ends makes blocks of ends alone, each of which can be reached.
func (m *maker) ends(n int) {
again:
	m.f.Blocks = make([]api.Block, n)
	order := m.order(n)
	for i := range order {
		m.f.Blocks[order[i]].End = m.end(i, order)
	}
	g, e := graph.Of(m.f)
	if e != api.OK || len(graph.Order(g, 0)) < n {
		goto again
	}
	m.g, m.tree = g, dom.Tree(g, 0)
}

// order gives all places, at most times in any order, but 0 is always the first.
func (m *maker) order(n int) []int {
	order := make([]int, n)
	for i := range order {
		order[i] = i
	}
	if m.r.Intn(3) > 0 {
		m.r.Shuffle(n-1, func(a, b int) { order[a+1], order[b+1] = order[b+1], order[a+1] })
	}
	return order
}

// end gives the end of one of the order: it mostly goes on at the next one, or
// the one behind that, and at times back.
func (m *maker) end(i int, order []int) api.End {
	if i+1 == len(order) {
		return []api.End{{Kind: api.Ret}, {Kind: api.Ret}, {Kind: api.Ret}, {Kind: api.Trap}}[m.r.Intn(4)]
	}
	next := order[i+1]
	switch m.r.Intn(8) {
	case 0, 1, 2, 3:
		return api.End{Kind: api.Jump, To: []int{next}}
	case 4:
		if i > 0 {
			return api.End{Kind: api.If, To: m.either(next, order[1+m.r.Intn(i)])}
		}
	case 5:
		return api.End{Kind: api.If, To: m.either(next, next)}
	}
	return api.End{Kind: api.If, To: m.either(next, order[min(i+1+m.r.Intn(3), len(order)-1)])}
}

// either gives two places, in any order.
func (m *maker) either(a, b int) []int {
	if m.r.Intn(2) == 0 {
		return []int{a, b}
	}
	return []int{b, a}
}

func (m *maker) fresh() int {
	for {
		v := 1 + m.r.Intn(api.MaxValue)
		if !slices.ContainsFunc(m.defs, func(d def) bool { return d.v == v }) {
			return v
		}
	}
}

// pick gives a value of a shape that is defined at a block's end, so far: at
// times, and where there is none, a new one.
func (m *maker) pick(at int, shape [2]int) int {
	var list []int
	for _, d := range m.defs {
		if d.shape == shape && dom.Over(m.tree, d.block, at) {
			list = append(list, d.v)
		}
	}
	if len(list) > 0 && m.r.Intn(8) > 0 {
		// Those that were defined last are asked for more often.
		return list[len(list)-1-m.r.Intn(1+m.r.Intn(len(list)))]
	}
	return m.number(at, shape, word.Cut(m.r.Uint64()>>m.r.Intn(64), shape[0]))
}

// number puts a constant at a block's end.
func (m *maker) number(at int, shape [2]int, v uint64) int {
	return m.put(at, api.Op{Kind: api.Const, Bits: shape[0], Lanes: shape[1], Imm: v})
}

// address gives a value that mostly says where something is.
func (m *maker) address(at int) int {
	if m.r.Intn(8) == 0 {
		return m.pick(at, [2]int{64, 1})
	}
	return m.number(at, [2]int{64, 1}, uint64(m.r.Intn(m.size+1)))
}

// put puts an operation behind those of a block, and gives the value that it
// defines.
func (m *maker) put(at int, o api.Op) int {
	o.Dst = 0
	if o.Kind != api.Store && o.Kind != api.Pstore {
		o.Dst = m.fresh()
		bits, lanes := kind.Gives(o)
		m.defs = append(m.defs, def{o.Dst, at, [2]int{bits, lanes}})
	}
	m.f.Blocks[at].Ops = append(m.f.Blocks[at].Ops, o)
	return o.Dst
}

func (m *maker) phis(at int) {
	for range m.r.Intn(4) {
		p := api.Phi{Bits: m.width(), Dst: m.fresh(), From: slices.Clone(m.g.Pred[at])}
		m.f.Blocks[at].Phis = append(m.f.Blocks[at].Phis, p)
		m.defs = append(m.defs, def{p.Dst, at, [2]int{p.Bits, 1}})
	}
}

func (m *maker) op(at int) {
	o := m.look()
	where := map[int]int{api.Load: 0, api.Store: 0, api.Pload: 1, api.Pstore: 1}
	for i, shape := range kind.Takes(o) {
		if place, touches := where[o.Kind]; touches && i == place {
			o.Args[i] = m.address(at)
			continue
		}
		o.Args[i] = m.pick(at, shape)
	}
	m.put(at, o)
}

// look gives an operation of the level that looks right, with any arguments.
func (m *maker) look() api.Op {
	for {
		o := api.Op{Kind: m.r.Intn([]int{api.Store, api.Pdiv, api.Get}[m.level] + 1), Bits: m.width(), Lanes: 1}
		if o.Kind >= api.Pack || m.level == api.Lanes && m.r.Intn(4) == 0 {
			o.Lanes = 2 << m.r.Intn(4)
		}
		o.Imm = []uint64{0, 0, 1, 3, 8, 16, 32, 64}[m.r.Intn(8)]
		for args := range 17 {
			for _, o.Dst = range []int{0, 1} {
				o.Args = slices.Repeat([]int{1}, args)
				if kind.May(o) {
					return o
				}
			}
		}
	}
}

// ask gives a block's end what it returns, or asks for.
func (m *maker) ask(at int) {
	e := &m.f.Blocks[at].End
	switch e.Kind {
	case api.Ret:
		e.Arg = m.pick(at, [2]int{m.f.Ret, 1})
	case api.If:
		e.Arg = m.pick(at, [2]int{1, 1})
	}
}

// args gives the phis theirs, when all else is there.
func (m *maker) args() {
	for _, k := range m.f.Blocks {
		for i := range k.Phis {
			p := &k.Phis[i]
			for _, from := range p.From {
				p.Args = append(p.Args, m.pick(from, [2]int{p.Bits, 1}))
			}
		}
	}
}
