package code_test

import (
	"bytes"
	"encoding/binary"
	"math"
	"math/big"
	"math/rand"
	"slices"
	"testing"

	"lockstep/api"
	"lockstep/code"
)

// A mark is a number as it stands in a function's bytes, and from where to
// where it may be.
type mark struct {
	v, least, most uint64
}

// marks are the numbers of a function's bytes, by the chapter's words.
func marks(f api.Func) []mark {
	var l []mark
	count := func(n, least, most int) { l = append(l, mark{uint64(n), uint64(least), uint64(most)}) }
	numbers := func(vs ...int) {
		for _, v := range vs {
			count(v, 0, greatest)
		}
	}
	row := func(list []int, most int) {
		count(len(list), 0, most)
		numbers(list...)
	}
	row(f.Params, 16)
	numbers(f.Ret)
	count(len(f.Blocks), 1, 64)
	for _, k := range f.Blocks {
		count(len(k.Phis), 0, 512)
		for _, p := range k.Phis {
			numbers(p.Bits, p.Dst)
			row(p.From, 64)
			row(p.Args, 64)
		}
		count(len(k.Ops), 0, 512)
		for _, o := range k.Ops {
			numbers(o.Kind, o.Bits, o.Lanes, o.Dst)
			row(o.Args, 64)
			l = append(l, mark{o.Imm, 0, math.MaxUint64})
		}
		numbers(k.End.Kind, k.End.Arg)
		row(k.End.To, 64)
	}
	return l
}

// spell is the bytes of marks.
func spell(l []mark) []byte {
	var b []byte
	for _, m := range l {
		b = binary.AppendUvarint(b, m.v)
	}
	return b
}

// A model reads bytes as the chapter tells it, number for number, and leads out
// by a panic.
type model struct {
	b  []byte
	at int
}

func (m *model) whole() uint64 {
	v := new(big.Int)
	for n := 0; ; n++ {
		if n == 10 {
			panic(api.Malformed)
		}
		if m.at == len(m.b) {
			panic(api.Short)
		}
		c := m.b[m.at]
		m.at++
		v.Add(v, new(big.Int).Lsh(big.NewInt(int64(c%128)), uint(7*n)))
		if c < 128 {
			if c == 0 && n > 0 || !v.IsUint64() {
				panic(api.Malformed)
			}
			return v.Uint64()
		}
	}
}

func (m *model) from(least, most uint64) int {
	v := m.whole()
	if v < least || v > most {
		panic(api.Size)
	}
	return int(v)
}

func (m *model) row(most uint64) []int {
	l := make([]int, m.from(0, most))
	for i := range l {
		l[i] = m.from(0, greatest)
	}
	return l
}

func (m *model) read() api.Func {
	f := api.Func{Params: m.row(16), Ret: m.from(0, greatest)}
	f.Blocks = make([]api.Block, m.from(1, 64))
	size := len(f.Blocks)
	for i := range f.Blocks {
		k := &f.Blocks[i]
		k.Phis = make([]api.Phi, m.from(0, 512))
		for n := range k.Phis {
			p := &k.Phis[n]
			p.Bits, p.Dst = m.from(0, greatest), m.from(0, greatest)
			p.From, p.Args = m.row(64), m.row(64)
		}
		k.Ops = make([]api.Op, m.from(0, 512))
		for n := range k.Ops {
			o := &k.Ops[n]
			o.Kind, o.Bits = m.from(0, greatest), m.from(0, greatest)
			o.Lanes, o.Dst = m.from(0, greatest), m.from(0, greatest)
			o.Args, o.Imm = m.row(64), m.whole()
		}
		k.End.Kind, k.End.Arg, k.End.To = m.from(0, greatest), m.from(0, greatest), m.row(64)
		size += len(k.Phis) + len(k.Ops)
	}
	if m.at < len(m.b) {
		panic(api.Malformed)
	}
	if size > 512 {
		panic(api.Size)
	}
	return f
}

// wantDecode is what Decode must answer.
func wantDecode(b []byte) (f api.Func, e api.Code) {
	defer func() {
		if c, ok := recover().(api.Code); ok {
			f, e = api.Func{}, c
		}
	}()
	return (&model{b: b}).read(), api.OK
}

// checkDecode holds Decode against the model, and against P4.3.
func checkDecode(t *testing.T, b []byte) api.Code {
	t.Helper()
	want, wantCode := wantDecode(b)
	f, e := code.Decode(b)
	if e != wantCode || !code.Same(f, want) {
		t.Fatalf("P4.2: Decode(%v) is %v, %d, not %v, %d", b, f, e, want, wantCode)
	}
	if e == api.OK && (!code.May(f) || !bytes.Equal(code.Encode(f), b)) {
		t.Fatalf("P4.3: Decode(%v) is encoded to %v", b, code.Encode(f))
	}
	return e
}

// checkWrong holds Decode against a code, with nothing beside it.
func checkWrong(t *testing.T, b []byte, want api.Code) {
	t.Helper()
	f, e := code.Decode(b)
	if e != want || f.Params != nil || f.Ret != 0 || f.Blocks != nil {
		t.Errorf("P4.2: Decode(%v) is %v, %d, not %d", b, f, e, want)
	}
}

// P4.2

func TestDecodeByHand(t *testing.T) {
	for _, c := range []struct {
		b []byte
		f api.Func
	}{
		{[]byte{0, 8, 1, 0, 1, 0, 8, 1, 1, 0, 5, 0, 1, 0}, five()},
		{[]byte{0, 0, 1, 0, 0, 0, 0, 0}, api.Func{Blocks: make([]api.Block, 1)}},
		{[]byte{2, 3, 172, 2, 4, 1, 1, 5, 6, 2, 7, 8, 1, 9, 1, 10, 11, 12, 13, 2, 14, 15, 16, 17, 18, 1, 19}, api.Func{Params: []int{3, 300}, Ret: 4, Blocks: []api.Block{{
			Phis: []api.Phi{{Bits: 5, Dst: 6, From: []int{7, 8}, Args: []int{9}}},
			Ops:  []api.Op{{Kind: 10, Bits: 11, Lanes: 12, Dst: 13, Args: []int{14, 15}, Imm: 16}},
			End:  api.End{Kind: 17, Arg: 18, To: []int{19}},
		}}}},
	} {
		if f, e := code.Decode(c.b); e != api.OK || !code.Same(f, c.f) {
			t.Errorf("P4.2: Decode(%v) is %v, %d", c.b, f, e)
		}
	}
}

func TestDecodeOfBytesThatEndTooSoon(t *testing.T) {
	for _, f := range functions() {
		b := spell(marks(f))
		for n := range b {
			checkWrong(t, b[:n:n], api.Short)
			checkWrong(t, b[:n], api.Short)
		}
	}
	checkWrong(t, nil, api.Short)
}

func TestDecodeOfBytesBehindTheEnd(t *testing.T) {
	for _, f := range functions() {
		b := spell(marks(f))
		for _, c := range []byte{0, 1, 128, 255} {
			checkWrong(t, append(bytes.Clone(b), c), api.Malformed)
			checkWrong(t, append(bytes.Clone(b), c, 0), api.Malformed)
		}
		checkWrong(t, append(bytes.Clone(b), b...), api.Malformed)
	}
}

// swap is the bytes of marks with other bytes for one of them, and behind it
// what else is to follow.
func swap(l []mark, i int, c, behind []byte) []byte {
	return slices.Concat(spell(l[:i]), c, behind)
}

func TestDecodeOfWrongNumbers(t *testing.T) {
	for _, f := range []api.Func{sample(), five(), odd()} {
		l := marks(f)
		for i := range l {
			// What is wrong first is told, whatever comes behind it.
			for _, behind := range [][]byte{spell(l[i+1:]), nil, {0}, {128}, {128, 0}, bytes.Repeat([]byte{255}, 20)} {
				checkWrong(t, swap(l, i, []byte{128, 0}, behind), api.Malformed)
				checkWrong(t, swap(l, i, bytes.Repeat([]byte{255}, 10), behind), api.Malformed)
				checkWrong(t, swap(l, i, append(bytes.Repeat([]byte{255}, 9), 2), behind), api.Malformed)
			}
			checkWrong(t, swap(l, i, []byte{255}, nil), api.Short)
		}
	}
}

func TestDecodeOfTooGreatNumbers(t *testing.T) {
	for _, f := range []api.Func{sample(), five(), odd()} {
		l := marks(f)
		for i, m := range l {
			for _, v := range []uint64{m.most + 1, m.most + 2, greatest + 1, 1 << 32, 1<<32 + 1, 1 << 63, math.MaxUint64} {
				if v <= m.most {
					continue
				}
				for _, behind := range [][]byte{spell(l[i+1:]), nil, {0}, {128}, {128, 0}, bytes.Repeat([]byte{255}, 20)} {
					checkWrong(t, swap(l, i, binary.AppendUvarint(nil, v), behind), api.Size)
				}
			}
		}
	}
}

func TestDecodeOfGreatestNumbers(t *testing.T) {
	for _, f := range []api.Func{sample(), five(), odd()} {
		l := marks(f)
		for i, m := range l {
			// A count that is greater than it was isn't Size as yet.
			e := checkDecode(t, swap(l, i, binary.AppendUvarint(nil, m.most), spell(l[i+1:])))
			if m.most >= greatest && e != api.OK {
				t.Errorf("P4.2: with %d as number %d it is %d", m.most, i, e)
			}
			if i < len(l)-1 {
				checkWrong(t, swap(l, i, binary.AppendUvarint(nil, m.most), nil), api.Short)
			}
		}
	}
}

func TestDecodeOfNoBlocks(t *testing.T) {
	for _, behind := range [][]byte{nil, {0}, {0, 0}, {128}, {128, 0}} {
		checkWrong(t, append([]byte{0, 8, 0}, behind...), api.Size)
		checkWrong(t, append([]byte{1, 8, 8, 0}, behind...), api.Size)
	}
}

func TestDecodeOfWhatIsWrongFirst(t *testing.T) {
	great := binary.AppendUvarint(nil, greatest+1)
	for _, c := range []struct {
		parts [][]byte
		e     api.Code
	}{
		// Within a list, too.
		{[][]byte{{2}, great}, api.Size}, {[][]byte{{2}, great, {128}}, api.Size}, {[][]byte{{2}, great, {128, 0}}, api.Size}, {[][]byte{{2, 128, 0}, great}, api.Malformed}, {[][]byte{{2, 5, 128}}, api.Short},
		{[][]byte{{0, 8, 1, 0, 0, 0, 0, 2}, great}, api.Size}, {[][]byte{{0, 8, 1, 0, 0, 0, 0, 2}, great, {128, 0}}, api.Size}, {[][]byte{{0, 8, 1, 0, 0, 0, 0, 2, 128, 0}, great}, api.Malformed},
		{[][]byte{{0}, great, {0}}, api.Size}, {[][]byte{{0}, great, {128, 0}}, api.Size}, {[][]byte{{17, 128, 0}}, api.Size}, {[][]byte{{128, 0}, great}, api.Malformed},
		// An Imm may be greater, but it must be a number.
		{[][]byte{{0, 8, 1, 0, 1, 0, 8, 1, 1, 0}, great, {0, 1, 0}}, api.OK}, {[][]byte{{0, 8, 1, 0, 1, 0, 8, 1, 1, 0, 255, 255, 255, 255, 255, 255, 255, 255, 255, 2}}, api.Malformed},
	} {
		b := slices.Concat(c.parts...)
		if c.e != api.OK {
			checkWrong(t, b, c.e)
		} else if f, e := code.Decode(b); e != api.OK || f.Blocks[0].Ops[0].Imm != greatest+1 {
			t.Errorf("P4.2: Decode(%v) is %v, %d", b, f, e)
		}
	}
}

func TestDecodeOfTooManyInABlock(t *testing.T) {
	for _, n := range []uint64{513, 514, 1000, greatest, greatest + 1, math.MaxUint64} {
		many := binary.AppendUvarint(nil, n)
		for _, behind := range [][]byte{nil, {0}, {128, 0}, make([]byte, 6000)} {
			checkWrong(t, slices.Concat([]byte{0, 8, 1}, many, behind), api.Size)
			checkWrong(t, slices.Concat([]byte{0, 8, 1, 0}, many, behind), api.Size)
			checkWrong(t, slices.Concat([]byte{0, 8, 2, 0, 0, 0, 0, 0, 0}, many, behind), api.Size)
		}
	}
}

func TestDecodeOfTooManyTogether(t *testing.T) {
	two := api.Func{Blocks: []api.Block{{Phis: make([]api.Phi, 256)}, {Ops: make([]api.Op, 255)}}}
	for _, f := range []api.Func{bulk(512, 0), bulk(0, 512), bulk(512, 512), bulk(256, 256), two} {
		b := spell(marks(f))
		checkWrong(t, b, api.Size)
		// That there are too many together is told when all is read.
		checkWrong(t, b[:len(b)-1], api.Short)
		checkWrong(t, append(b[:len(b)-1:len(b)-1], 128, 0), api.Malformed)
		checkWrong(t, append(bytes.Clone(b), 0), api.Malformed)
	}
	two.Blocks[1].Ops = two.Blocks[1].Ops[1:]
	if f, e := code.Decode(spell(marks(two))); e != api.OK || code.Size(f) != 512 {
		t.Errorf("P4.2: a function of 512 is %d", e)
	}
}

// TestDecodeOfBytesOfFew goes through all bytes of up to 6 that are of these,
// behind the beginnings of functions.
func TestDecodeOfBytesOfFew(t *testing.T) {
	few := []byte{0, 1, 2, 17, 128}
	for _, head := range [][]byte{nil, {0, 8, 1}, {0, 8, 1, 1, 8, 2}, {0, 8, 1, 0, 1, 0, 8, 1, 1}, {0, 8, 1, 0, 0}} {
		row := []byte{}
		for range 7 {
			for n := range pow(len(few), len(row)) {
				for i := range row {
					row[i] = few[n%len(few)]
					n /= len(few)
				}
				checkDecode(t, append(head[:len(head):len(head)], row...))
			}
			row = append(row, 0)
		}
	}
}

func pow(a, n int) int {
	p := 1
	for range n {
		p *= a
	}
	return p
}

// TestDecodeOfChangedBytes changes bytes of functions here and there.
func TestDecodeOfChangedBytes(t *testing.T) {
	r := rand.New(rand.NewSource(4))
	seen := map[api.Code]int{}
	for _, f := range []api.Func{sample(), five(), odd(), bulk(3, 4)} {
		whole := spell(marks(f))
		for range 20000 {
			b := bytes.Clone(whole)
			for range 1 + r.Intn(3) {
				at := r.Intn(len(b))
				switch r.Intn(4) {
				case 0:
					b = slices.Delete(b, at, min(len(b), at+1+r.Intn(3)))
				case 1:
					b = slices.Insert(b, at, byte(r.Intn(256)), byte(r.Intn(256)))
				case 2:
					b[at] = byte(r.Intn(256))
				default:
					b[at] = []byte{0, 1, 64, 65, 127, 128, 255}[r.Intn(7)]
				}
				if len(b) == 0 {
					break
				}
			}
			seen[checkDecode(t, b)]++
		}
	}
	for _, e := range []api.Code{api.OK, api.Short, api.Malformed, api.Size} {
		if seen[e] < 100 {
			t.Errorf("P4.2: %d was seen %d times only", e, seen[e])
		}
	}
}

// P4.3

func TestWhatIsEncodedIsDecodedToItself(t *testing.T) {
	for _, f := range functions() {
		g, e := code.Decode(code.Encode(f))
		if e != api.OK || !code.Same(f, g) {
			t.Errorf("P4.3: what was encoded is decoded to %v, %d", g, e)
		}
	}
}

func TestFunctionsByChance(t *testing.T) {
	r := rand.New(rand.NewSource(7))
	for range 3000 {
		f := byChance(r)
		b := code.Encode(f)
		if !bytes.Equal(b, spell(marks(f))) {
			t.Fatalf("P4.1: %v is encoded to %v", f, b)
		}
		g, e := code.Decode(b)
		if e != api.OK || !code.Same(f, g) {
			t.Fatalf("P4.3: %v is decoded to %v, %d", f, g, e)
		}
		if !bytes.Equal(code.Encode(g), b) {
			t.Fatalf("P4.3: %v is encoded to %v", g, code.Encode(g))
		}
	}
}

// byChance is a function that may be told, and else is as it comes.
func byChance(r *rand.Rand) api.Func {
	number := func() int { return int(r.Uint64() >> (33 + r.Intn(31))) }
	row := func(most int) []int {
		l := make([]int, r.Intn(1+r.Intn(most+1)))
		for i := range l {
			l[i] = number()
		}
		return l
	}
	f := api.Func{Params: row(16), Ret: number(), Blocks: make([]api.Block, 1+r.Intn(1+r.Intn(64)))}
	for i := range f.Blocks {
		k := &f.Blocks[i]
		for range r.Intn(4) {
			k.Phis = append(k.Phis, api.Phi{Bits: number(), Dst: number(), From: row(64), Args: row(64)})
		}
		for range r.Intn(4) {
			k.Ops = append(k.Ops, api.Op{Kind: number(), Bits: number(), Lanes: number(), Dst: number(), Args: row(64), Imm: r.Uint64() >> r.Intn(64)})
		}
		k.End = api.End{Kind: number(), Arg: number(), To: row(64)}
	}
	return f
}
