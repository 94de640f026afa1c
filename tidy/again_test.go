package tidy_test

import (
	"maps"
	"slices"

	"lockstep/api"
)

// chains gives each chain of blocks that are one with the next, by the place of
// its first one; one that is one with none, nor none with it, is a chain alone.
func chains(f api.Func) [][]int {
	comers := map[int]map[int]int{}
	for from, k := range f.Blocks {
		for _, to := range k.End.To {
			if comers[to] == nil {
				comers[to] = map[int]int{}
			}
			comers[to][from] = 1
		}
	}
	next, behind := map[int]int{}, map[int]int{}
	for x, k := range f.Blocks {
		if k.End.Kind == api.Jump && k.End.To[0] != x && len(comers[k.End.To[0]]) == 1 {
			next[x], behind[k.End.To[0]] = k.End.To[0], x
		}
	}
	var list [][]int
	for at := range f.Blocks {
		if _, is := behind[at]; is {
			continue
		}
		c := []int{at}
		for to, is := next[at]; is; to, is = next[to] {
			c = append(c, to)
		}
		list = append(list, c)
	}
	return list
}

// joined gives anew a function with all made one that is: chain by chain, not
// two by two.
func joined(f api.Func) api.Func {
	list := chains(f)
	place, was := map[int]int{}, map[int]int{}
	for i, c := range list {
		for n, at := range c {
			place[at] = i
			if n == 0 {
				continue
			}
			for _, p := range f.Blocks[at].Phis {
				was[p.Dst] = p.Args[0]
			}
		}
	}
	value := func(v int) int {
		for was[v] != 0 {
			v = was[v]
		}
		return v
	}
	g := api.Func{Params: f.Params, Ret: f.Ret}
	for _, c := range list {
		k := api.Block{Phis: f.Blocks[c[0]].Phis, End: f.Blocks[c[len(c)-1]].End}
		for _, at := range c {
			k.Ops = slices.Concat(k.Ops, f.Blocks[at].Ops)
		}
		g.Blocks = append(g.Blocks, told(k, value, func(at int) int { return place[at] }))
	}
	return g
}

// told gives a block with other values and places.
func told(k api.Block, value, place func(int) int) api.Block {
	made := func(list []int, by func(int) int) []int {
		var out []int
		for _, v := range list {
			out = append(out, by(v))
		}
		return out
	}
	g := api.Block{End: api.End{Kind: k.End.Kind, Arg: value(k.End.Arg), To: made(k.End.To, place)}}
	for _, o := range k.Ops {
		o.Args = made(o.Args, value)
		g.Ops = append(g.Ops, o)
	}
	for _, p := range k.Phis {
		comes := map[int]int{}
		for i, from := range made(p.From, place) {
			comes[from] = value(p.Args[i])
		}
		p.From, p.Args = slices.Sorted(maps.Keys(comes)), nil
		for _, from := range p.From {
			p.Args = append(p.Args, comes[from])
		}
		g.Phis = append(g.Phis, p)
	}
	return g
}

// users tells how often each value is an argument.
func users(f api.Func) map[int]int {
	n := map[int]int{}
	count := func(list []int) {
		for _, v := range list {
			n[v]++
		}
	}
	for _, k := range f.Blocks {
		for _, p := range k.Phis {
			count(p.Args)
		}
		for _, o := range k.Ops {
			count(o.Args)
		}
		if k.End.Arg > 0 {
			count([]int{k.End.Arg})
		}
	}
	return n
}

func touchesOrTraps(o api.Op) bool {
	return slices.Contains([]int{api.Div, api.Load, api.Store, api.Pload, api.Pstore, api.Pdiv}, o.Kind)
}

// cleared gives anew a function without what isn't used: one phi, or operation,
// at a time, the last one first.
func cleared(f api.Func) api.Func {
	n := users(f)
	for at := len(f.Blocks) - 1; at >= 0; at-- {
		k := f.Blocks[at]
		for i := len(k.Ops) - 1; i >= 0; i-- {
			if n[k.Ops[i].Dst] == 0 && !touchesOrTraps(k.Ops[i]) {
				k.Ops = slices.Concat(k.Ops[:i], k.Ops[i+1:])
				return cleared(with(f, at, k))
			}
		}
		for i := len(k.Phis) - 1; i >= 0; i-- {
			if n[k.Phis[i].Dst] == 0 {
				k.Phis = slices.Concat(k.Phis[:i], k.Phis[i+1:])
				return cleared(with(f, at, k))
			}
		}
	}
	return f
}

// with gives a function with another block there.
func with(f api.Func, at int, k api.Block) api.Func {
	f.Blocks = slices.Clone(f.Blocks)
	f.Blocks[at] = k
	return f
}
