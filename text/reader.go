package text

import (
	"strconv"

	"lockstep/api"
)

const longest = 64 // entries of a list that may be told

// reader reads a text word by word. Once something is wrong, no word is left, so
// that all that is asked for behind it ends, and is zero.
//
// It reads no more of a kind than may be told: the one too many isn't what has
// to stand behind them, so that a long text doesn't fill the memory.
type reader struct {
	word  string // the next one; it is empty behind the last one
	rest  string // what stands behind it
	wrong bool
}

func startReader(s string) *reader {
	r := &reader{rest: s}
	r.step()
	return r
}

// step goes on to the next word.
func (r *reader) step() { r.word, r.rest = cutWord(r.rest) }

func (r *reader) fail() { *r = reader{wrong: true} }

// cutWord is the first word of a text, and what stands behind it. A parenthesis
// is a word by itself, for nothing need stand between it and others.
func cutWord(s string) (string, string) {
	begin := -1
	for i, c := range s {
		gap, parenthesis := c == ' ' || c == '\n', c == '(' || c == ')'
		switch {
		case begin >= 0 && (gap || parenthesis):
			return s[begin:i], s[i:]
		case parenthesis:
			return s[i : i+1], s[i+1:]
		case begin < 0 && !gap:
			begin = i
		}
	}
	if begin < 0 {
		return "", ""
	}
	return s[begin:], ""
}

// take goes past a word that has to stand here; an empty one is the end of all.
func (r *reader) take(word string) {
	if r.word != word {
		r.fail()
		return
	}
	r.step()
}

// whole reads a number of at most so many bits.
func (r *reader) whole(bits int) uint64 {
	v, err := strconv.ParseUint(r.word, 10, bits)
	if err != nil || len(r.word) > 1 && r.word[0] == '0' {
		r.fail()
		return 0
	}
	r.step()
	return v
}

func (r *reader) number() int { return int(r.whole(31)) }

func (r *reader) list() []int {
	var vs []int
	r.take("(")
	for r.word != ")" && r.word != "" && len(vs) < longest {
		vs = append(vs, r.number())
	}
	r.take(")")
	return vs
}

func (r *reader) function() api.Func {
	var f api.Func
	r.take("func")
	f.Params = r.list()
	f.Ret = r.number()
	for r.word != "" && len(f.Blocks) < api.MaxBlocks {
		f.Blocks = append(f.Blocks, r.block())
	}
	r.take("")
	return f
}

func (r *reader) block() api.Block {
	var k api.Block
	r.take("block")
	for r.word == "phi" && len(k.Phis) < api.MaxOps {
		k.Phis = append(k.Phis, r.phi())
	}
next:
	if kind, ok := Kind(r.word); ok && len(k.Ops) < api.MaxOps {
		k.Ops = append(k.Ops, r.op(kind))
		goto next
	}
	k.End = r.end()
	return k
}

func (r *reader) phi() api.Phi {
	var p api.Phi
	r.take("phi")
	p.Bits = r.number()
	p.Dst = r.number()
	p.From = r.list()
	p.Args = r.list()
	return p
}

// op reads an operation whose name, which is the next word, is that of a kind.
func (r *reader) op(kind int) api.Op {
	o := api.Op{Kind: kind}
	r.step()
	o.Bits = r.number()
	o.Lanes = r.number()
	o.Dst = r.number()
	o.Args = r.list()
	o.Imm = r.whole(64)
	return o
}

func (r *reader) end() api.End {
	kind, ok := endKind(r.word)
	if !ok {
		r.fail()
		return api.End{}
	}
	e := api.End{Kind: kind}
	r.step()
	e.Arg = r.number()
	e.To = r.list()
	return e
}
