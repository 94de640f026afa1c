package alias_test

import (
	"math/big"
	"slices"

	"lockstep/affine"
	"lockstep/api"
	"lockstep/check"
)

// touch is a touch, told anew by the chapter's words.
type touch struct {
	at, address, length int
	form                api.Form
}

// retold gives the touches of a block of a function that is right.
func retold(f api.Func, block int) []touch {
	shapes := check.Shapes(f)
	where := map[int]int{api.Load: 0, api.Store: 0, api.Pload: 1, api.Pstore: 1}
	var list []touch
	for at, o := range f.Blocks[block].Ops {
		place, is := where[o.Kind]
		if !is {
			continue
		}
		// What goes there, or comes from there, is as long.
		goes := o.Args[len(o.Args)-1]
		if o.Dst > 0 {
			goes = o.Dst
		}
		x := touch{at: at, address: o.Args[place], length: shapes[goes][0] * shapes[goes][1] / 8}
		x.form, _ = affine.Of(f, x.address)
		list = append(list, x)
	}
	return list
}

// whole is 2^64.
var whole = new(big.Int).Lsh(big.NewInt(1), 64)

// behind gives how far one touch is behind another one, and tells whether that is
// known.
func (x touch) behind(other touch) (uint64, bool) {
	if !slices.Equal(x.form.Terms, other.form.Terms) {
		return 0, false
	}
	n := new(big.Int).SetUint64(x.form.Off)
	n.Sub(n, new(big.Int).SetUint64(other.form.Off))
	return n.Mod(n, whole).Uint64(), true
}

// isApartFrom looks for a byte that is one of both.
func (x touch) isApartFrom(other touch) bool {
	far, is := x.behind(other)
	for i := range x.length {
		for k := range other.length {
			is = is && far+uint64(i) != uint64(k)
		}
	}
	return is
}

// isNextTo tells whether a touch's first byte is the one behind another one's last.
func (x touch) isNextTo(other touch) bool {
	far, is := x.behind(other)
	return is && far-1 == uint64(other.length-1)
}
