package ifconv

import (
	"slices"

	"lockstep/api"
	"lockstep/kind"
)

// merger merges a hammock of a function that is right. It counts new values
// however many there are: whether that is too great is asked at the end.
type merger struct {
	f    api.Func
	h    api.Hammock
	ops  []api.Op // those of At, and what comes behind them
	last int      // the greatest value so far
}

// merged gives the function with the hammock merged, however great it is.
func (m *merger) merged() api.Func {
	at := m.f.Blocks[m.h.At]
	m.ops = slices.Clone(at.Ops)
	m.putSides(at.End.Arg)
	phis := m.met(at.End.Arg)
	blocks := slices.Clone(m.f.Blocks)
	blocks[m.h.Join].Phis = phis
	blocks[m.h.At] = api.Block{Phis: at.Phis, Ops: m.ops, End: api.End{Kind: api.Jump, To: []int{m.h.Join}}}
	g := api.Func{Params: m.f.Params, Ret: m.f.Ret}
	place := places(m.h)
	for at, k := range blocks {
		if at != m.h.Then && at != m.h.Else {
			g.Blocks = append(g.Blocks, moved(k, place))
		}
	}
	return g
}

// putSides puts the operations of both sides: those of Then are done if c is so,
// those of Else if it isn't.
func (m *merger) putSides(c int) {
	m.putAll(m.between(m.h.Then), c)
	other := m.between(m.h.Else)
	not := 0
	if slices.ContainsFunc(other, needsGuard) {
		not = m.fresh(api.Xor, 1, 0, c, m.fresh(api.Const, 1, 1))
	}
	m.putAll(other, not)
}

// between gives the operations of a block between.
func (m *merger) between(at int) []api.Op {
	if at == none {
		return nil
	}
	return m.f.Blocks[at].Ops
}

// needsGuard tells whether an operation may be done on its own way alone.
func needsGuard(o api.Op) bool { return !kind.Pure(o.Kind) }

// putAll puts operations, guarded by a value that only those that aren't pure
// ask for.
func (m *merger) putAll(ops []api.Op, guard int) {
	for _, o := range ops {
		// What it asks for besides is put ahead of it.
		o = m.guarded(o, guard)
		m.ops = append(m.ops, o)
	}
}

// guarded gives an operation that is done only if the guard is so.
func (m *merger) guarded(o api.Op, guard int) api.Op {
	switch o.Kind {
	case api.Load:
		o.Kind, o.Args = api.Pload, []int{guard, o.Args[0], m.fresh(api.Const, o.Bits, 0)}
	case api.Store:
		o.Kind, o.Args = api.Pstore, []int{guard, o.Args[0], o.Args[1]}
	case api.Div:
		o.Kind, o.Args = api.Pdiv, []int{guard, o.Args[0], o.Args[1], m.fresh(api.Const, o.Bits, 0)}
	case api.Pload, api.Pstore, api.Pdiv:
		both := m.fresh(api.And, 1, 0, o.Args[0], guard)
		o.Args = append([]int{both}, o.Args[1:]...)
	}
	return o
}

// fresh puts an operation of one lane that defines a new value, and gives that.
func (m *merger) fresh(does, bits int, imm uint64, args ...int) int {
	m.last++
	m.ops = append(m.ops, api.Op{Kind: does, Bits: bits, Lanes: 1, Dst: m.last, Args: args, Imm: imm})
	return m.last
}

// met gives the join's phis, as they are when At alone comes by both ways; the
// places are still the old ones.
func (m *merger) met(c int) []api.Phi {
	then, other := m.comer(m.h.Then), m.comer(m.h.Else)
	var phis []api.Phi
	for _, p := range m.f.Blocks[m.h.Join].Phis {
		v := m.chosen(p.Bits, c, by(p, then), by(p, other))
		phis = append(phis, instead(p, then, other, m.h.At, v))
	}
	return phis
}

// comer tells from which block a way comes to the join.
func (m *merger) comer(between int) int {
	if between == none {
		return m.h.At
	}
	return between
}

// chosen gives the value that is the first one if c is so, else the second.
func (m *merger) chosen(bits, c, first, second int) int {
	if first == second {
		return first
	}
	return m.fresh(api.Select, bits, 0, c, first, second)
}

// by tells what a phi is by the way from a block.
func by(p api.Phi, at int) int { return p.Args[slices.Index(p.From, at)] }

// instead gives a phi to which, instead of what comes from the two blocks, that
// value comes from At.
func instead(p api.Phi, then, other, at, v int) api.Phi {
	var from, args []int
	for i, b := range p.From {
		if b != then && b != other {
			from, args = append(from, b), append(args, p.Args[i])
		}
	}
	place, _ := slices.BinarySearch(from, at)
	p.From, p.Args = slices.Insert(from, place, at), slices.Insert(args, place, v)
	return p
}
