package eval

import (
	"slices"

	"lockstep/api"
	"lockstep/word"
)

// deed does an operation, and tells the value that it gives: nothing, where it
// gives none. Trapped.
type deed func(o api.Op) ([]uint64, api.Code)

// allDeeds are what each kind does.
func (r *machine) allDeeds() map[int]deed {
	deeds := map[int]deed{
		api.Const:  constant,
		api.Select: r.choose,
		api.Zext:   r.resized(word.Zext),
		api.Trunc:  r.resized(word.Trunc),
		api.Load:   r.load,
		api.Store:  r.store,
		api.Pload:  r.guarded(r.load),
		api.Pstore: r.guarded(r.store),
		api.Pdiv:   r.guarded(r.two(api.Div)),
		api.Pack:   r.pack,
		api.Get:    r.get,
	}
	for kind := api.Add; kind <= api.Slt; kind++ {
		deeds[kind] = r.two(kind)
	}
	return deeds
}

func constant(o api.Op) ([]uint64, api.Code) {
	return slices.Repeat(one(o.Imm), o.Lanes), api.OK
}

func (r *machine) choose(o api.Op) ([]uint64, api.Code) {
	if r.isSo(o.Args[0]) {
		return r.values[o.Args[1]], api.OK
	}
	return r.values[o.Args[2]], api.OK
}

func (r *machine) load(o api.Op) ([]uint64, api.Code) {
	return r.Read(r.number(o.Args[0]), o.Bits, o.Lanes)
}

func (r *machine) store(o api.Op) ([]uint64, api.Code) {
	return nil, r.Write(r.number(o.Args[0]), o.Bits, r.values[o.Args[1]])
}

func (r *machine) pack(o api.Op) ([]uint64, api.Code) {
	list := make([]uint64, len(o.Args))
	for i, v := range o.Args {
		list[i] = r.number(v)
	}
	return list, api.OK
}

func (r *machine) get(o api.Op) ([]uint64, api.Code) {
	return one(r.values[o.Args[0]][o.Imm]), api.OK
}

// two does a kind of two, lane by lane.
func (r *machine) two(kind int) deed {
	return func(o api.Op) ([]uint64, api.Code) {
		a, b := r.values[o.Args[0]], r.values[o.Args[1]]
		list := make([]uint64, len(a))
		for i := range list {
			v, e := word.Do(kind, o.Bits, a[i], b[i])
			if e != api.OK {
				return nil, e
			}
			list[i] = v
		}
		return list, api.OK
	}
}

// resized gives a number another width; Imm is the one that it had.
func (r *machine) resized(to func(v uint64, from, to int) (uint64, api.Code)) deed {
	return func(o api.Op) ([]uint64, api.Code) {
		v, e := to(r.number(o.Args[0]), int(o.Imm), o.Bits)
		return one(v), e
	}
}

// guarded does, if the first argument is 1, what is behind it; else there is the
// last one's value.
func (r *machine) guarded(do deed) deed {
	return func(o api.Op) ([]uint64, api.Code) {
		if !r.isSo(o.Args[0]) {
			return r.values[o.Args[len(o.Args)-1]], api.OK
		}
		o.Args = o.Args[1:]
		return do(o)
	}
}
