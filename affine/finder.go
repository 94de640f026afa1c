package affine

import "lockstep/api"

const (
	wide = 64 // the width of addresses
	most = 16 // the terms that the form of a value has, at most
)

// finder finds the forms of a function that is right. As each operation's
// arguments are defined ahead of it, and a phi is asked for none, it comes to an
// end.
type finder struct {
	ops   map[int]api.Op // what sums gives
	found map[int]api.Form
}

// sums gives the operations of a function that may be sums, by the values that
// they define. Those of other shapes are among them, but are never asked for: of
// these kinds what is given, and taken, has the operation's own shape.
func sums(f api.Func) map[int]api.Op {
	ops := map[int]api.Op{}
	for _, k := range f.Blocks {
		for _, o := range k.Ops {
			switch o.Kind {
			case api.Const, api.Add, api.Sub, api.Mul, api.Shl:
				ops[o.Dst] = o
			}
		}
	}
	return ops
}

// form gives the form of a value. What was found is kept: told anew each time,
// values each of which uses the one ahead of it twice would take for ever.
func (x *finder) form(v int) api.Form {
	if y, is := x.found[v]; is {
		return y
	}
	y, is := x.sum(v)
	if !is || len(y.Terms) > most {
		y = api.Form{Terms: []api.Term{{V: v, Scale: 1}}}
	}
	x.found[v] = y
	return y
}

// sum gives the form that the operation makes by which a value is defined, and
// tells whether it makes any.
func (x *finder) sum(v int) (api.Form, bool) {
	o, is := x.ops[v]
	switch {
	case !is:
		return api.Form{}, false
	case o.Kind == api.Const:
		return api.Form{Off: o.Imm}, true
	}
	return made(o.Kind, x.form(o.Args[0]), x.form(o.Args[1]))
}

// made gives the form that a kind of two makes of two forms, and tells whether it
// makes any.
func made(kind int, a, b api.Form) (api.Form, bool) {
	switch {
	case kind == api.Add:
		return Plus(a, b), true
	case kind == api.Sub:
		return Minus(a, b), true
	case kind == api.Mul && isNumber(b):
		return Times(a, b.Off), true
	case kind == api.Mul && isNumber(a):
		return Times(b, a.Off), true
	case kind == api.Shl && isNumber(b) && b.Off < wide:
		return Times(a, 1<<b.Off), true
	}
	return api.Form{}, false
}

// isNumber tells whether a form comes to the same whatever the values are.
func isNumber(x api.Form) bool { return len(x.Terms) == 0 }
