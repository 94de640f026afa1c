package check_test

import (
	"cmp"
	"math"
	"math/rand"
	"slices"
	"testing"

	"lockstep/api"
	"lockstep/check"
	"lockstep/kind"
)

// maker makes functions by chance that are right at a level.
type maker struct {
	r     *rand.Rand
	level int
	f     api.Func
	defs  []def // what is defined so far
}

func (m *maker) made() api.Func {
	m.f, m.defs = api.Func{Ret: m.width()}, nil
	for i := range m.r.Intn(4) {
		m.f.Params = append(m.f.Params, m.width())
		m.defs = append(m.defs, def{i + 1, -1, 0, [2]int{m.f.Params[i], 1}})
	}
	m.ends(1 + m.r.Intn(7))
	// Those that dominate others come first.
	order := make([]int, len(m.f.Blocks))
	for at := range order {
		order[at] = at
	}
	slices.SortFunc(order, func(a, b int) int { return cmp.Compare(m.overs(a), m.overs(b)) })
	for _, at := range order {
		m.phis(at)
		for range m.r.Intn(4) {
			m.op(at)
		}
		m.ask(at)
	}
	m.args()
	return m.f
}

func (m *maker) width() int { return []int{1, 8, 16, 32, 64}[m.r.Intn(5)] }

// ends makes blocks of ends alone, each of which can be reached.
func (m *maker) ends(n int) {
again:
	m.f.Blocks = make([]api.Block, n)
	for at := range m.f.Blocks {
		e := &m.f.Blocks[at].End
		if e.Kind = m.r.Intn(4); n == 1 {
			e.Kind = api.Ret + m.r.Intn(2)*api.Trap
		}
		for range []int{0, 1, 2, 0}[e.Kind] {
			e.To = append(e.To, 1+m.r.Intn(n-1))
		}
	}
	for at := range n {
		if !m.again().reaches(at, -1) {
			goto again
		}
	}
}

func (m *maker) again() again { return again{m.f, m.level} }

// over tells whether a block dominates another one.
func (m *maker) over(a, b int) bool { return a == b || !m.again().reaches(b, a) }

// overs counts those that dominate a block.
func (m *maker) overs(b int) int {
	n := 0
	for a := range m.f.Blocks {
		if m.over(a, b) {
			n++
		}
	}
	return n
}

// fresh gives a value that isn't one yet.
func (m *maker) fresh() int {
	for {
		v := 1 + m.r.Intn([]int{60, api.MaxValue}[m.r.Intn(2)])
		if !slices.ContainsFunc(m.defs, func(d def) bool { return d.v == v }) {
			return v
		}
	}
}

// pick gives a value of a shape that is defined at a block's end, so far: at
// times, and where there is none, a new one.
func (m *maker) pick(at int, shape [2]int) int {
	var list []int
	for _, d := range m.defs {
		if d.shape == shape && (d.block < 0 || m.over(d.block, at)) {
			list = append(list, d.v)
		}
	}
	if len(list) > 0 && m.r.Intn(6) > 0 {
		return list[m.r.Intn(len(list))]
	}
	return m.put(at, api.Op{Kind: api.Const, Bits: shape[0], Lanes: shape[1], Imm: uint64(m.r.Intn(2))})
}

// put puts an operation behind those of a block, and gives the value that it
// defines.
func (m *maker) put(at int, o api.Op) int {
	k := &m.f.Blocks[at]
	o.Dst = 0
	if o.Kind != api.Store && o.Kind != api.Pstore {
		o.Dst = m.fresh()
		bits, lanes := kind.Gives(o)
		m.defs = append(m.defs, def{o.Dst, at, len(k.Ops), [2]int{bits, lanes}})
	}
	k.Ops = append(k.Ops, o)
	return o.Dst
}

func (m *maker) phis(at int) {
	for range m.r.Intn(3) {
		p := api.Phi{Bits: m.width(), Dst: m.fresh(), From: m.again().comers(at)}
		m.f.Blocks[at].Phis = append(m.f.Blocks[at].Phis, p)
		m.defs = append(m.defs, def{p.Dst, at, -1, [2]int{p.Bits, 1}})
	}
}

func (m *maker) op(at int) {
	o := m.look()
	for i, shape := range kind.Takes(o) {
		o.Args[i] = m.pick(at, shape)
	}
	m.put(at, o)
}

// look gives an operation that looks right, of the level, with any arguments.
func (m *maker) look() api.Op {
	for {
		o := api.Op{Kind: m.r.Intn([]int{api.Store, api.Pdiv, api.Get}[m.level] + 1), Bits: m.width(), Lanes: 1}
		if m.level == api.Lanes {
			o.Lanes = 1 << m.r.Intn(5)
		}
		o.Imm = []uint64{0, 0, 1, 8, 16, 32, 64}[m.r.Intn(7)]
		for args := range 17 {
			for _, o.Dst = range []int{0, 1} {
				o.Args = slices.Repeat([]int{1}, args)
				if kind.May(o) {
					return o
				}
			}
		}
	}
}

// ask gives a block's end what it returns, or asks for.
func (m *maker) ask(at int) {
	e := &m.f.Blocks[at].End
	switch e.Kind {
	case api.Ret:
		e.Arg = m.pick(at, [2]int{m.f.Ret, 1})
	case api.If:
		e.Arg = m.pick(at, [2]int{1, 1})
	}
}

// args gives the phis theirs, when all else is there.
func (m *maker) args() {
	for _, k := range m.f.Blocks {
		for i := range k.Phis {
			p := &k.Phis[i]
			for _, from := range p.From {
				p.Args = append(p.Args, m.pick(from, [2]int{p.Bits, 1}))
			}
		}
	}
}

// numbers are all numbers of a function but Imm, those in lists too.
func numbers(f *api.Func) []*int {
	list := []*int{&f.Ret}
	for _, l := range lists(f) {
		for i := range *l {
			list = append(list, &(*l)[i])
		}
	}
	for b := range f.Blocks {
		k := &f.Blocks[b]
		for i := range k.Phis {
			list = append(list, &k.Phis[i].Bits, &k.Phis[i].Dst)
		}
		for i := range k.Ops {
			o := &k.Ops[i]
			list = append(list, &o.Kind, &o.Bits, &o.Lanes, &o.Dst)
		}
		list = append(list, &k.End.Kind, &k.End.Arg)
	}
	return list
}

// lists are all lists of numbers of a function.
func lists(f *api.Func) []*[]int {
	list := []*[]int{&f.Params}
	for b := range f.Blocks {
		k := &f.Blocks[b]
		for i := range k.Phis {
			list = append(list, &k.Phis[i].From, &k.Phis[i].Args)
		}
		for i := range k.Ops {
			list = append(list, &k.Ops[i].Args)
		}
		list = append(list, &k.End.To)
	}
	return list
}

// copied gives a function with memory of its own.
func copied(f api.Func) api.Func {
	f.Blocks = slices.Clone(f.Blocks)
	for b := range f.Blocks {
		k := &f.Blocks[b]
		k.Phis, k.Ops = slices.Clone(k.Phis), slices.Clone(k.Ops)
	}
	for _, l := range lists(&f) {
		*l = slices.Clone(*l)
	}
	return f
}

// changed gives a function in which something is otherwise.
func changed(r *rand.Rand, f api.Func) api.Func {
	f = copied(f)
	all, l := numbers(&f), lists(&f)
	one, other := all[r.Intn(len(all))], all[r.Intn(len(all))]
	list := l[r.Intn(len(l))]
	k, with := &f.Blocks[r.Intn(len(f.Blocks))], &f.Blocks[r.Intn(len(f.Blocks))]
	switch r.Intn(12) {
	case 0:
		*one += 1 - 2*r.Intn(2)
	case 1:
		*one = []int{0, 1, 2, 3, 8, 64, 1023, 1024, 1<<31 - 1, 1 << 31, -1, math.MaxInt}[r.Intn(12)]
	case 2, 3, 4, 5:
		*one = *other
	case 6:
		*one, *other = *other, *one
	case 7:
		*list = append(*list, *one)
	case 8:
		*list = slices.Repeat(*list, 2)[:2*len(*list)/3]
	case 9:
		slices.Reverse(*list)
	case 10:
		k.Ops, with.Ops = with.Ops, k.Ops
	case 11:
		slices.Reverse(k.Ops)
		k.Phis, with.Phis = with.Phis, k.Phis
	}
	return f
}

// checkAll checks all that is told of a function, and tells how many of the
// steps are right at the last level.
func checkAll(t *testing.T, f api.Func) int {
	t.Helper()
	var right [3]bool
	steps := 0
	for level := range right {
		var want api.Code
		want, steps = again{f, level}.wrong()
		checkAt(t, f, level, want)
		right[level] = check.Check(f, level) == api.OK
	}
	if right[api.Scalar] && !right[api.Guarded] || right[api.Guarded] && !right[api.Lanes] {
		t.Errorf("P11.2: %v: right: %v", f, right)
	}
	checkShapes(t, f, again{f, api.Lanes}.shapes())
	last := len(f.Params)
	for _, k := range f.Blocks {
		for _, p := range k.Phis {
			last = max(last, p.Dst)
		}
		for _, o := range k.Ops {
			last = max(last, o.Dst)
		}
	}
	checkLast(t, f, last)
	return steps
}

// P11.1, P11.2

func TestRightByChance(t *testing.T) {
	for level := range 3 {
		m := &maker{r: rand.New(rand.NewSource(111)), level: level}
		for range 1500 {
			f := m.made()
			for at := level; at <= api.Lanes; at++ {
				checkAt(t, f, at, api.OK)
			}
			checkAll(t, f)
		}
	}
}

func TestChangedByChance(t *testing.T) {
	r := rand.New(rand.NewSource(112))
	var seen [7]int
	for i := range 6000 {
		m := &maker{r: r, level: i % 3}
		f := m.made()
		for range 4 {
			f = changed(r, f)
			seen[checkAll(t, f)]++
		}
	}
	// All that can be wrong was, and some were right.
	if slices.Min(seen[:]) < 100 {
		t.Errorf("P11.1: too few of a kind: %v", seen)
	}
}

func TestTheGreatestByChance(t *testing.T) {
	r := rand.New(rand.NewSource(113))
	for _, f := range []api.Func{chain(1, api.MaxOps-1), chain(api.MaxBlocks, 60), fan()} {
		checkAll(t, f)
		for range 3 {
			checkAll(t, changed(r, f))
		}
	}
}
