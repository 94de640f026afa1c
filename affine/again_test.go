package affine_test

import (
	"maps"
	"math/big"
	"slices"

	"lockstep/api"
)

// linear tells by what each value is multiplied, as numbers without a bound; the
// offset is that of 0.
type linear map[int]*big.Int

// again tells the forms of a function's values anew, by the chapter's words.
type again struct {
	f     api.Func
	known map[int]linear
}

// retold gives the form of a value of 64 bits of a function that is right.
func (a *again) retold(v int) api.Form {
	n := a.of(v)
	var x api.Form
	for _, v := range slices.Sorted(maps.Keys(n)) {
		if v == 0 {
			x.Off = n[v].Uint64()
			continue
		}
		x.Terms = append(x.Terms, api.Term{V: v, Scale: n[v].Uint64()})
	}
	return x
}

// of gives the same as numbers from 1 to 2^64 - 1, and leaves out each 0.
func (a *again) of(v int) linear {
	if a.known[v] == nil {
		a.known[v] = a.made(v)
	}
	return a.known[v]
}

func (a *again) made(v int) linear {
	alone := linear{v: big.NewInt(1)}
	for _, k := range a.f.Blocks {
		for _, o := range k.Ops {
			if o.Dst != v {
				continue
			}
			n := a.madeBy(o)
			if n == nil {
				return alone
			}
			terms := 0
			for v := range n {
				n[v].Mod(n[v], new(big.Int).Lsh(big.NewInt(1), 64))
				if n[v].Sign() == 0 {
					delete(n, v)
				} else if v != 0 {
					terms++
				}
			}
			if terms > 16 {
				return alone
			}
			return n
		}
	}
	return alone
}

// madeBy gives what an operation makes, or nil.
func (a *again) madeBy(o api.Op) linear {
	if o.Lanes != 1 || o.Bits != 64 {
		return nil
	}
	var one, other linear
	if o.Kind == api.Add || o.Kind == api.Sub || o.Kind == api.Mul || o.Kind == api.Shl {
		one, other = a.of(o.Args[0]), a.of(o.Args[1])
	}
	off, plain := number(other)
	switch o.Kind {
	case api.Const:
		return linear{0: new(big.Int).SetUint64(o.Imm)}
	case api.Add:
		return with(one, other, 1)
	case api.Sub:
		return with(one, other, -1)
	case api.Mul:
		if plain {
			return times(one, off)
		}
		if off, plain := number(one); plain {
			return times(other, off)
		}
	case api.Shl:
		if plain && off.Cmp(big.NewInt(64)) < 0 {
			return times(one, new(big.Int).Exp(big.NewInt(2), off, nil))
		}
	}
	return nil
}

// number gives the offset, and tells whether there is nothing else.
func number(x linear) (*big.Int, bool) {
	n := big.NewInt(0)
	for v := range x {
		if v > 0 {
			return nil, false
		}
		n = x[v]
	}
	return n, true
}

// with gives one, and so many times the other.
func with(one, other linear, n int64) linear {
	out := times(one, big.NewInt(1))
	for v, x := range times(other, big.NewInt(n)) {
		if out[v] == nil {
			out[v] = new(big.Int)
		}
		out[v].Add(out[v], x)
	}
	return out
}

func times(one linear, n *big.Int) linear {
	out := linear{}
	for v, x := range one {
		out[v] = new(big.Int).Mul(x, n)
	}
	return out
}
