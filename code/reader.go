package code

import (
	"lockstep/api"
	"lockstep/num"
)

// reader reads numbers from what is left of bytes. The first code that isn't OK
// stays: behind it nothing more is read, and all that is told is zero.
type reader struct {
	rest []byte
	code api.Code
}

// anyNumber reads a number that may be as great as a number can.
func (r *reader) anyNumber() uint64 {
	if r.code != api.OK {
		return 0
	}
	v, n, e := num.Get(r.rest)
	r.rest, r.code = r.rest[n:], e
	return v
}

// within reads a number that is Size if it isn't from least to most.
func (r *reader) within(least, most uint64) int {
	v := r.anyNumber()
	if r.code != api.OK {
		return 0
	}
	if v < least || v > most {
		r.code = api.Size
		return 0
	}
	return int(v)
}

func (r *reader) number() int { return r.within(0, greatest) }

// many reads how many there are, from least to most, and each by next. It
// doesn't go by num.List, for what is wrong first counts: there a number that is
// too great comes behind whatever is wrong with the rest of its list.
func many[T any](r *reader, least, most uint64, next func() T) []T {
	var list []T
	for range r.within(least, most) {
		x := next()
		if r.code != api.OK {
			goto wrong
		}
		list = append(list, x)
	}
	return list
wrong:
	return nil
}

func (r *reader) list() []int { return many(r, 0, longest, r.number) }

func (r *reader) function() api.Func {
	var f api.Func
	f.Params = many(r, 0, api.MaxParams, r.number)
	f.Ret = r.number()
	f.Blocks = many(r, 1, api.MaxBlocks, r.block)
	return f
}

func (r *reader) block() api.Block {
	var k api.Block
	k.Phis = many(r, 0, api.MaxOps, r.phi)
	k.Ops = many(r, 0, api.MaxOps, r.op)
	k.End = r.end()
	return k
}

func (r *reader) phi() api.Phi {
	var p api.Phi
	p.Bits = r.number()
	p.Dst = r.number()
	p.From = r.list()
	p.Args = r.list()
	return p
}

func (r *reader) op() api.Op {
	var o api.Op
	o.Kind = r.number()
	o.Bits = r.number()
	o.Lanes = r.number()
	o.Dst = r.number()
	o.Args = r.list()
	o.Imm = r.anyNumber()
	return o
}

func (r *reader) end() api.End {
	var e api.End
	e.Kind = r.number()
	e.Arg = r.number()
	e.To = r.list()
	return e
}
