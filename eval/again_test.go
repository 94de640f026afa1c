package eval_test

import (
	"math/big"
	"slices"

	"lockstep/api"
)

// again runs a function anew by the chapter's words, a step at a time, with
// numbers that have no bound, over bytes of its own.
type again struct {
	f         api.Func
	values    map[int][]*big.Int
	bytes     []byte
	trace     []api.Touch
	block, at int
}

// rerun tells what comes out, of a function that is right.
func rerun(g given) came {
	a := &again{f: g.f, values: map[int][]*big.Int{}, bytes: slices.Clone(g.bytes)}
	for i, bits := range g.f.Params {
		a.values[i+1] = lanes(cut(new(big.Int).SetUint64(g.args[i]), bits))
	}
	for _, p := range g.f.Blocks[0].Phis {
		a.values[p.Dst] = lanes(new(big.Int))
	}
	for steps := range g.fuel {
		if run, ended := a.step(); ended {
			run.Steps = steps + 1
			return came{run, a.bytes, a.trace}
		}
	}
	return came{api.Run{Code: api.Fuel, Steps: g.fuel}, a.bytes, a.trace}
}

func lanes(list ...*big.Int) []*big.Int { return list }

func cut(v *big.Int, bits int) *big.Int {
	return new(big.Int).Mod(v, new(big.Int).Lsh(big.NewInt(1), uint(bits)))
}

// step does one operation, or one end, and tells how it came out, if it ended.
func (a *again) step() (api.Run, bool) {
	k := a.f.Blocks[a.block]
	if a.at < len(k.Ops) {
		o := k.Ops[a.at]
		a.at++
		v, trap := a.op(o)
		if trap {
			return api.Run{Code: api.Trapped}, true
		}
		if v != nil {
			a.values[o.Dst] = v
		}
		return api.Run{}, false
	}
	switch k.End.Kind {
	case api.Ret:
		return api.Run{Value: a.values[k.End.Arg][0].Uint64()}, true
	case api.Trap:
		return api.Run{Code: api.Trapped}, true
	case api.If:
		a.goTo(k.End.To[1-int(a.values[k.End.Arg][0].Int64())])
	case api.Jump:
		a.goTo(k.End.To[0])
	}
	return api.Run{}, false
}

func (a *again) goTo(to int) {
	was := map[int][]*big.Int{}
	for v, list := range a.values {
		was[v] = list
	}
	for _, p := range a.f.Blocks[to].Phis {
		for i, from := range p.From {
			if from == a.block {
				a.values[p.Dst] = was[p.Args[i]]
			}
		}
	}
	a.block, a.at = to, 0
}

// op tells what an operation gives, and whether it is a trap.
func (a *again) op(o api.Op) ([]*big.Int, bool) {
	var args [][]*big.Int
	for _, v := range o.Args {
		args = append(args, a.values[v])
	}
	if api.Add <= o.Kind && o.Kind <= api.Slt {
		return lanesOfTwo(o, args[0], args[1])
	}
	switch o.Kind {
	case api.Const:
		return slices.Repeat(lanes(new(big.Int).SetUint64(o.Imm)), o.Lanes), false
	case api.Select:
		return args[2-args[0][0].Int64()], false
	case api.Zext:
		return args[0], false
	case api.Trunc:
		return lanes(cut(args[0][0], o.Bits)), false
	case api.Load:
		return a.load(args[0][0], o.Bits, o.Lanes)
	case api.Store:
		return nil, a.store(args[0][0], o.Bits, args[1])
	case api.Pack:
		return slices.Concat(args...), false
	case api.Get:
		return args[0][o.Imm : o.Imm+1], false
	}
	return a.guarded(o, args)
}

func (a *again) guarded(o api.Op, args [][]*big.Int) ([]*big.Int, bool) {
	so := args[0][0].Sign() > 0
	switch o.Kind {
	case api.Pload:
		if so {
			return a.load(args[1][0], o.Bits, 1)
		}
		return args[2], false
	case api.Pstore:
		return nil, so && a.store(args[1][0], o.Bits, args[2])
	}
	if so {
		o.Kind = api.Div
		return lanesOfTwo(o, args[1], args[2])
	}
	return args[3], false
}

func (a *again) load(at *big.Int, bits, n int) ([]*big.Int, bool) {
	var list []*big.Int
	for i := range n {
		from, there := a.place(at, i, bits)
		if !there {
			return nil, true
		}
		v := new(big.Int)
		for k := range bits / 8 {
			a.trace = append(a.trace, api.Touch{At: uint64(from + k), Byte: a.bytes[from+k]})
			v.Add(v, new(big.Int).Lsh(big.NewInt(int64(a.bytes[from+k])), uint(8*k)))
		}
		list = append(list, v)
	}
	return list, false
}

func (a *again) store(at *big.Int, bits int, list []*big.Int) bool {
	for i, v := range list {
		from, there := a.place(at, i, bits)
		if !there {
			return true
		}
		for k := range bits / 8 {
			a.bytes[from+k] = byte(cut(new(big.Int).Rsh(v, uint(8*k)), 8).Uint64())
			a.trace = append(a.trace, api.Touch{Write: true, At: uint64(from + k), Byte: a.bytes[from+k]})
		}
	}
	return false
}

// place tells where a number lies, the one of this place in a row, and whether
// all of its bytes are there.
func (a *again) place(at *big.Int, i, bits int) (int, bool) {
	from := new(big.Int).Add(at, big.NewInt(int64(i*bits/8)))
	behind := new(big.Int).Add(from, big.NewInt(int64(bits/8)))
	return int(from.Uint64()), behind.Cmp(big.NewInt(int64(len(a.bytes)))) <= 0
}

func lanesOfTwo(o api.Op, a, b []*big.Int) ([]*big.Int, bool) {
	var list []*big.Int
	for i := range o.Lanes {
		if o.Kind == api.Div && b[i].Sign() == 0 {
			return nil, true
		}
		list = append(list, cut(two(o.Kind, o.Bits, a[i], b[i]), o.Bits))
	}
	return list, false
}

func two(kind, bits int, a, b *big.Int) *big.Int {
	v := new(big.Int)
	switch kind {
	case api.Add:
		return v.Add(a, b)
	case api.Sub:
		return v.Sub(a, b)
	case api.Mul:
		return v.Mul(a, b)
	case api.Div:
		return v.Div(a, b)
	case api.And:
		return v.And(a, b)
	case api.Or:
		return v.Or(a, b)
	case api.Xor:
		return v.Xor(a, b)
	case api.Shl, api.Shr:
		return shifted(kind, bits, a, b)
	case api.Eq:
		return truth(a.Cmp(b) == 0)
	case api.Ult:
		return truth(a.Cmp(b) < 0)
	}
	return truth(signed(a, bits).Cmp(signed(b, bits)) < 0)
}

func shifted(kind, bits int, a, b *big.Int) *big.Int {
	v := new(big.Int)
	if b.Cmp(big.NewInt(int64(bits))) >= 0 {
		return v
	}
	if kind == api.Shl {
		return v.Lsh(a, uint(b.Int64()))
	}
	return v.Rsh(a, uint(b.Int64()))
}

func signed(v *big.Int, bits int) *big.Int {
	if v.Bit(bits-1) == 0 {
		return v
	}
	return new(big.Int).Sub(v, new(big.Int).Lsh(big.NewInt(1), uint(bits)))
}

func truth(so bool) *big.Int {
	if so {
		return big.NewInt(1)
	}
	return big.NewInt(0)
}
