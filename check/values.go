package check

import (
	"lockstep/api"
	"lockstep/dom"
	"lockstep/kind"
)

// place is where something is defined, or used: in a block, there at one of its
// operations, or behind them all, at the end.
type place struct{ block, at int }

// begin stands in a place for what is ahead of all operations.
const begin = -1

// value is a value that was found: its shape, and where it is defined.
type value struct {
	shape [2]int
	place place
}

// use is an argument: the value, the shape that is taken, and the place ahead of
// which the value must be defined.
type use struct {
	v     int
	shape [2]int
	place place
}

// defined finds all values. Defined, if one is defined twice, or is none.
func (c *checker) defined() api.Code {
	c.values = map[int]value{}
	for i, bits := range c.f.Params {
		// Defined at the beginning of block 0, which dominates all, it is everywhere.
		c.values[i+1] = value{scalar(bits), place{0, begin}}
	}
	for block, k := range c.f.Blocks {
		if !c.defineAll(block, k) {
			return api.Defined
		}
	}
	return api.OK
}

// defineAll finds the values of a block, and tells whether each is one, and new.
func (c *checker) defineAll(block int, k api.Block) bool {
	for _, p := range k.Phis {
		if !c.define(p.Dst, scalar(p.Bits), place{block, begin}) {
			return false
		}
	}
	for at, o := range k.Ops {
		bits, lanes := kind.Gives(o)
		if bits > 0 && !c.define(o.Dst, [2]int{bits, lanes}, place{block, at}) {
			return false
		}
	}
	return true
}

// define finds a value, and tells whether it is one, and new.
func (c *checker) define(v int, shape [2]int, at place) bool {
	if _, twice := c.values[v]; twice || v < 1 || v > api.MaxValue {
		return false
	}
	c.values[v] = value{shape, at}
	return true
}

// used asks of each use one thing behind the other: Defined, if the value is
// defined nowhere; Typed, if its shape isn't what is taken; Defined, if it isn't
// defined there.
func (c *checker) used() api.Code {
	c.collect()
	asked := [...]struct {
		so   func(u use) bool
		code api.Code
	}{{c.isFound, api.Defined}, {c.fits, api.Typed}, {c.isAhead, api.Defined}}
	var e api.Code
	for _, ask := range asked {
		e = ask.code
		for _, u := range c.uses {
			if !ask.so(u) {
				goto wrong
			}
		}
	}
	return api.OK
wrong:
	return e
}

// isFound tells whether the value is defined somewhere.
func (c *checker) isFound(u use) bool {
	_, is := c.values[u.v]
	return is
}

// fits tells whether the value has the shape that is taken.
func (c *checker) fits(u use) bool { return c.values[u.v].shape == u.shape }

// isAhead tells whether the value is defined ahead of its use: in its block, or
// in one that dominates it.
func (c *checker) isAhead(u use) bool {
	from := c.values[u.v].place
	if from.block == u.place.block {
		return from.at < u.place.at
	}
	return dom.Over(c.tree, from.block, u.place.block)
}

// collect puts all uses together.
func (c *checker) collect() {
	for block, k := range c.f.Blocks {
		for _, p := range k.Phis {
			for i, v := range p.Args {
				c.use(v, scalar(p.Bits), c.end(p.From[i]))
			}
		}
		for at, o := range k.Ops {
			for i, shape := range kind.Takes(o) {
				c.use(o.Args[i], shape, place{block, at})
			}
		}
		switch k.End.Kind {
		case api.Ret:
			c.use(k.End.Arg, scalar(c.f.Ret), c.end(block))
		case api.If:
			c.use(k.End.Arg, scalar(1), c.end(block))
		}
	}
}

func (c *checker) use(v int, shape [2]int, at place) {
	c.uses = append(c.uses, use{v, shape, at})
}

// end is the place behind all operations of a block.
func (c *checker) end(block int) place { return place{block, len(c.f.Blocks[block].Ops)} }

// scalar is the shape of one lane of a width.
func scalar(bits int) [2]int { return [2]int{bits, 1} }
