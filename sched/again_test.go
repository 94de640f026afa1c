package sched_test

import (
	"slices"

	"lockstep/api"
)

// ties are told anew, by the chapter's words, of a block of a function that is
// right: ties[b][a] tells whether the operation at b hangs on that at a.
type ties [][]bool

func tied(f api.Func, block int) ties {
	ops := f.Blocks[block].Ops
	where := map[int]int{}
	for at, o := range ops {
		if o.Kind != api.Store && o.Kind != api.Pstore {
			where[o.Dst] = at
		}
	}
	x := make(ties, len(ops))
	var impure []int
	for at, o := range ops {
		x[at] = make([]bool, len(ops))
		for _, v := range o.Args {
			if from, is := where[v]; is {
				x[at][from] = true
			}
		}
		switch o.Kind {
		case api.Div, api.Load, api.Store, api.Pload, api.Pstore, api.Pdiv:
			for _, other := range impure {
				x[at][other] = true
			}
			impure = append(impure, at)
		}
	}
	return x
}

// of gives those on which one hangs.
func (x ties) of(at int) []int {
	var list []int
	for other, is := range x[at] {
		if is {
			list = append(list, other)
		}
	}
	return list
}

// allows tells whether an order of so many places, each once, is legal.
func (x ties) allows(order []int) bool {
	sorted := slices.Sorted(slices.Values(order))
	if !slices.Equal(sorted, places(len(x))) {
		return false
	}
	for i, b := range order {
		for _, a := range order[i:] {
			if x[b][a] {
				return false
			}
		}
	}
	return true
}

// depths gives the longest way, from each, over those on which it hangs.
func (x ties) depths() []int {
	depth := make([]int, len(x))
	for again := true; again; {
		again = false
		for b := range x {
			for a := range x {
				if x[b][a] && depth[b] <= depth[a] {
					depth[b], again = depth[a]+1, true
				}
			}
		}
	}
	return depth
}

// free gives the places, rising, that aren't in an order, but all on which they
// hang are.
func (x ties) free(order []int) []int {
	var list []int
	for at := range x {
		is := !slices.Contains(order, at)
		for _, other := range x.of(at) {
			is = is && slices.Contains(order, other)
		}
		if is {
			list = append(list, at)
		}
	}
	return list
}

// chosen gives an order of which each is one that choose takes of those that are
// free.
func (x ties) chosen(choose func(free []int) int) []int {
	var order []int
	for range x {
		order = append(order, choose(x.free(order)))
	}
	return order
}

// flat gives the flat order of the operations, anew.
func (x ties) flat(ops []api.Op) []int {
	return x.chosen(func(free []int) int {
		pure := slices.DeleteFunc(slices.Clone(free), func(at int) bool {
			k := ops[at].Kind
			return k == api.Div || api.Load <= k && k <= api.Pdiv
		})
		return slices.Concat(pure, free)[0]
	})
}
