package check_test

import (
	"slices"

	"lockstep/api"
	"lockstep/code"
	"lockstep/kind"
	"lockstep/word"
)

// again tells a function anew by the chapter's words, one by one; dominators by
// what is reached without a block.
type again struct {
	f     api.Func
	level int
}

// steps are what is asked, one behind the other, and what is wrong if it isn't so.
func (a again) steps() []func() bool {
	return []func() bool{
		func() bool { return code.May(a.f) },
		a.shaped,
		a.typed,
		func() bool { return a.definedOnce() && a.definedSomewhere() },
		a.fits,
		a.ahead,
	}
}

// wrong tells what is wrong, and how many of the steps are right.
func (a again) wrong() (api.Code, int) {
	codes := []api.Code{api.Size, api.Shape, api.Typed, api.Defined, api.Typed, api.Defined}
	for i, right := range a.steps() {
		if !right() {
			return codes[i], i
		}
	}
	return api.OK, len(codes)
}

func (a again) shaped() bool {
	for at, k := range a.f.Blocks {
		ways, there := map[int]int{api.Ret: 0, api.Jump: 1, api.If: 2, api.Trap: 0}[k.End.Kind]
		if !there || len(k.End.To) != ways {
			return false
		}
		for _, to := range k.End.To {
			if to < 1 || to >= len(a.f.Blocks) {
				return false
			}
		}
		if (k.End.Kind == api.Jump || k.End.Kind == api.Trap) && k.End.Arg != 0 {
			return false
		}
		for _, p := range k.Phis {
			if !slices.Equal(p.From, a.comers(at)) || len(p.Args) != len(p.From) {
				return false
			}
		}
	}
	for at := range a.f.Blocks {
		if !a.reaches(at, -1) {
			return false
		}
	}
	return true
}

func (a again) comers(at int) []int {
	var list []int
	for from, k := range a.f.Blocks {
		if slices.Contains(k.End.To, at) {
			list = append(list, from)
		}
	}
	return list
}

// reaches tells whether a block can be reached from block 0 without another one.
func (a again) reaches(at, without int) bool {
	seen := map[int]bool{without: true}
	var look func(x int) bool
	look = func(x int) bool {
		if seen[x] || x < 0 || x >= len(a.f.Blocks) {
			return false
		}
		seen[x] = true
		return x == at || slices.ContainsFunc(a.f.Blocks[x].End.To, look)
	}
	return look(0)
}

func (a again) typed() bool {
	widths := append([]int{a.f.Ret}, a.f.Params...)
	for _, k := range a.f.Blocks {
		for _, p := range k.Phis {
			widths = append(widths, p.Bits)
		}
		for _, o := range k.Ops {
			guarded := o.Kind == api.Pload || o.Kind == api.Pstore || o.Kind == api.Pdiv
			wide := o.Kind == api.Pack || o.Kind == api.Get || o.Lanes != 1
			if !kind.May(o) || guarded && a.level < api.Guarded || wide && a.level < api.Lanes {
				return false
			}
		}
	}
	return !slices.ContainsFunc(widths, func(bits int) bool { return !word.May(bits) })
}

// def is where a value is defined: a block's operation, or -1 of its phis; block
// -1 of the parameters.
type def struct {
	v, block, at int
	shape        [2]int
}

func (a again) defs() []def {
	var list []def
	for i, bits := range a.f.Params {
		list = append(list, def{i + 1, -1, 0, [2]int{bits, 1}})
	}
	for block, k := range a.f.Blocks {
		for _, p := range k.Phis {
			list = append(list, def{p.Dst, block, -1, [2]int{p.Bits, 1}})
		}
		for at, o := range k.Ops {
			if bits, lanes := kind.Gives(o); bits != 0 {
				list = append(list, def{o.Dst, block, at, [2]int{bits, lanes}})
			}
		}
	}
	return list
}

// byValue gives where values are defined, by these.
func (a again) byValue() map[int]def {
	list := map[int]def{}
	for _, d := range a.defs() {
		list[d.v] = d
	}
	return list
}

// uses are likewise where values are used, and the shapes that are taken.
func (a again) uses() []def {
	var list []def
	for block, k := range a.f.Blocks {
		for _, p := range k.Phis {
			for i, v := range p.Args {
				list = append(list, def{v, p.From[i], len(a.f.Blocks[p.From[i]].Ops), [2]int{p.Bits, 1}})
			}
		}
		for at, o := range k.Ops {
			takes := kind.Takes(o)
			for i, v := range o.Args {
				list = append(list, def{v, block, at, takes[i]})
			}
		}
		if k.End.Kind == api.Ret {
			list = append(list, def{k.End.Arg, block, len(k.Ops), [2]int{a.f.Ret, 1}})
		}
		if k.End.Kind == api.If {
			list = append(list, def{k.End.Arg, block, len(k.Ops), [2]int{1, 1}})
		}
	}
	return list
}

func (a again) definedOnce() bool {
	defs := a.byValue()
	for v := range defs {
		if v < 1 || v > api.MaxValue {
			return false
		}
	}
	return len(defs) == len(a.defs())
}

func (a again) definedSomewhere() bool {
	defs := a.byValue()
	return !slices.ContainsFunc(a.uses(), func(u def) bool {
		_, is := defs[u.v]
		return !is
	})
}

func (a again) fits() bool {
	defs := a.byValue()
	return !slices.ContainsFunc(a.uses(), func(u def) bool { return defs[u.v].shape != u.shape })
}

func (a again) ahead() bool {
	defs := a.byValue()
	return !slices.ContainsFunc(a.uses(), func(u def) bool {
		switch d := defs[u.v]; d.block {
		case -1:
			return false
		case u.block:
			return d.at >= u.at
		default:
			return a.reaches(u.block, d.block)
		}
	})
}

// shapes are those of all values, if all is right.
func (a again) shapes() map[int][2]int {
	if e, _ := a.wrong(); e != api.OK {
		return nil
	}
	shapes := map[int][2]int{}
	for _, d := range a.defs() {
		shapes[d.v] = d.shape
	}
	return shapes
}
