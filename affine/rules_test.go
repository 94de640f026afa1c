package affine_test

import (
	"math/rand"
	"slices"
	"testing"

	"lockstep/affine"
	"lockstep/api"
	"lockstep/code"
)

// lists are all lists of numbers of a function.
func lists(f *api.Func) []*[]int {
	list := []*[]int{&f.Params}
	for b := range f.Blocks {
		k := &f.Blocks[b]
		for i := range k.Phis {
			list = append(list, &k.Phis[i].From, &k.Phis[i].Args)
		}
		for i := range k.Ops {
			list = append(list, &k.Ops[i].Args)
		}
		list = append(list, &k.End.To)
	}
	return list
}

// numbers are all numbers of a function but Imm, those in lists too.
func numbers(f *api.Func) []*int {
	list := []*int{&f.Ret}
	for _, l := range lists(f) {
		for i := range *l {
			list = append(list, &(*l)[i])
		}
	}
	for b := range f.Blocks {
		k := &f.Blocks[b]
		for i := range k.Phis {
			list = append(list, &k.Phis[i].Bits, &k.Phis[i].Dst)
		}
		for i := range k.Ops {
			o := &k.Ops[i]
			list = append(list, &o.Kind, &o.Bits, &o.Lanes, &o.Dst)
		}
		list = append(list, &k.End.Kind, &k.End.Arg)
	}
	return list
}

// room stands behind a list's end, in its spare room.
var room = []int{5, 1, 7}

// spared gives a function with memory of its own, whose lists have spare room.
func spared(f api.Func) api.Func {
	f.Blocks = slices.Clone(f.Blocks)
	for b := range f.Blocks {
		k := &f.Blocks[b]
		k.Phis, k.Ops = slices.Clone(k.Phis), slices.Clone(k.Ops)
	}
	for _, l := range lists(&f) {
		*l = append(slices.Clone(*l), room...)[:len(*l)]
	}
	return f
}

// isUntouched tells whether a function is as it was, its spare room too.
func isUntouched(f, was api.Func) bool {
	is := code.Same(f, was)
	for _, l := range lists(&f) {
		is = is && slices.Equal((*l)[len(*l):][:len(room)], room)
	}
	return is
}

// roomy gives a form with memory of its own, and so much spare room that what is
// put together fits in.
func roomy(x api.Form) api.Form {
	x.Terms = append(slices.Clone(x.Terms), make([]api.Term, 60)...)[:len(x.Terms)]
	return x
}

// isAsItWas tells whether such a form is as it was, its spare room too.
func isAsItWas(x, was api.Form) bool {
	spare := x.Terms[len(x.Terms):][:60]
	return isSame(x, was) && !slices.ContainsFunc(spare, func(t api.Term) bool { return t != api.Term{} })
}

// scribble writes over all memory of a form.
func scribble(x api.Form) {
	list := x.Terms[:cap(x.Terms)]
	for i := range list {
		list[i] = api.Term{V: -7, Scale: 7}
	}
}

// Rules 3 to 5

// What is answered shares nothing with what was handed in.
func TestFormsOfTheirOwn(t *testing.T) {
	r := rand.New(rand.NewSource(175))
	for range 500 {
		x, y := someForm(r, 20, 30), someForm(r, 20, 30)
		if r.Intn(4) == 0 {
			y = api.Form{}
		}
		for name, made := range map[string]func(x, y api.Form) api.Form{
			"Plus": affine.Plus, "Minus": affine.Minus,
			"Times": func(x, y api.Form) api.Form { return affine.Times(x, y.Off) },
			"once":  func(x, _ api.Form) api.Form { return affine.Times(x, 1) },
		} {
			a, b := roomy(x), roomy(y)
			z := made(a, b)
			affine.May(a)
			affine.Same(a, b)
			if !isAsItWas(a, x) || !isAsItWas(b, y) {
				t.Errorf("P17.1: %s changed %v and %v: %v, %v", name, x, y, a, b)
			}
			was := slices.Clone(z.Terms)
			scribble(a)
			scribble(b)
			if !slices.Equal(z.Terms, was) {
				t.Errorf("P17.1: %s kept %v or %v", name, x, y)
			}
			a, b = roomy(x), roomy(y)
			scribble(made(a, b))
			if !isAsItWas(a, x) || !isAsItWas(b, y) {
				t.Errorf("P17.1: %s handed out %v or %v", name, x, y)
			}
		}
	}
}

// A form may be handed in twice.
func TestOfOneFormTwice(t *testing.T) {
	x := roomy(form(3, 1, 1, 2, mid, 9, top))
	checkForm(t, "twice", affine.Plus(x, x), form(6, 1, 2, 9, top-1))
	checkForm(t, "less itself", affine.Minus(x, x), api.Form{})
	// Two forms may be pieces of one list.
	a, b := x, x
	a.Terms, b.Terms = x.Terms[:2], x.Terms[1:]
	checkForm(t, "pieces", affine.Plus(a, b), form(6, 1, 1, 9, top))
	checkForm(t, "pieces", affine.Minus(b, a), form(0, 1, top, 9, top))
	if !isAsItWas(x, form(3, 1, 1, 2, mid, 9, top)) {
		t.Errorf("P17.1: changed: %v", x)
	}
}

func TestFunctionsAreNotChanged(t *testing.T) {
	m := &maker{r: rand.New(rand.NewSource(176))}
	for i := range 300 {
		was := m.made(1+i%8, 6)
		f := spared(was)
		for _, d := range m.defs {
			affine.Of(f, d.v)
		}
		if !isUntouched(f, was) {
			t.Errorf("P17.2: what was handed in was changed: %v, not %v", printed(f), printed(was))
		}
	}
}

// What is told hangs on nothing that was told ahead of it, nor on what was
// written over since.
func TestTheSameAgain(t *testing.T) {
	type asked struct {
		f    api.Func
		v    int
		x    api.Form
		code api.Code
	}
	m := &maker{r: rand.New(rand.NewSource(177))}
	var all []asked
	for i := range 100 {
		f := m.made(1+i%8, 6)
		g := spared(f)
		for _, d := range m.defs {
			x, e := affine.Of(g, d.v)
			all = append(all, asked{f, d.v, roomy(x), e})
			scribble(x)
		}
		for _, l := range lists(&g) {
			clear((*l)[:cap(*l)])
		}
		clear(g.Blocks)
	}
	for _, a := range slices.Backward(all) {
		if x, e := affine.Of(a.f, a.v); e != a.code || !isSame(x, a.x) {
			t.Errorf("P17.2: Of(%v, %d): %v %v, not %v %v", printed(a.f), a.v, x, e, a.x, a.code)
		}
	}
}
