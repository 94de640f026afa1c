package mem_test

import (
	"bytes"
	"math/big"
	"math/rand"
	"slices"
	"testing"

	"lockstep/api"
	"lockstep/mem"
)

// wantThere tells the chapter's words anew, with numbers that have no bound.
func wantThere(size int, at uint64, n int) bool {
	first := new(big.Int).SetUint64(at)
	behind := new(big.Int).Add(first, big.NewInt(int64(n)))
	return n >= 1 && behind.Cmp(big.NewInt(int64(size))) <= 0
}

// again is a memory by the chapter's words, each byte at its address.
type again struct {
	at    map[string]byte
	trace []api.Touch
}

func anew(b []byte) *again {
	g := &again{at: map[string]byte{}}
	for i, x := range b {
		g.at[big.NewInt(int64(i)).String()] = x
	}
	return g
}

// places are the addresses of a number's bytes; nil if one of them isn't there.
func (g *again) places(at uint64, bits, i int) []uint64 {
	var all []uint64
	for k := range bits / 8 {
		place := new(big.Int).SetUint64(at)
		place.Add(place, big.NewInt(int64(i*bits/8+k)))
		if _, is := g.at[place.String()]; !is {
			return nil
		}
		all = append(all, place.Uint64())
	}
	return all
}

func name(at uint64) string { return new(big.Int).SetUint64(at).String() }

func (g *again) read(at uint64, bits, n int) ([]uint64, api.Code) {
	if !slices.Contains([]int{8, 16, 32, 64}, bits) || n < 0 || n > 16 {
		return nil, api.Arg
	}
	var list []uint64
	for i := range n {
		places := g.places(at, bits, i)
		if places == nil {
			return nil, api.Trapped
		}
		v := new(big.Int)
		for _, p := range slices.Backward(places) {
			v.Mul(v, big.NewInt(256)).Add(v, big.NewInt(int64(g.at[name(p)])))
		}
		for _, p := range places {
			g.trace = append(g.trace, api.Touch{At: p, Byte: g.at[name(p)]})
		}
		list = append(list, v.Uint64())
	}
	return list, api.OK
}

func (g *again) write(at uint64, bits int, list []uint64) api.Code {
	if !slices.Contains([]int{8, 16, 32, 64}, bits) || len(list) > 16 {
		return api.Arg
	}
	for i, v := range list {
		places := g.places(at, bits, i)
		if places == nil {
			return api.Trapped
		}
		for _, p := range places {
			g.at[name(p)] = byte(v % 256)
			g.trace = append(g.trace, api.Touch{Write: true, At: p, Byte: byte(v % 256)})
			v /= 256
		}
	}
	return api.OK
}

func (g *again) bytes() []byte {
	var b []byte
	for i := range len(g.at) {
		b = append(b, g.at[name(uint64(i))])
	}
	return b
}

// doer does things by chance to a memory, and to the same one told anew.
type doer struct {
	r    *rand.Rand
	m    *mem.Mem
	want *again
	size int
}

func (d *doer) address() uint64 {
	switch d.r.Intn(12) {
	case 0:
		return d.r.Uint64()
	case 1:
		return -uint64(d.r.Intn(40))
	case 2, 3:
		return uint64(d.size) - uint64(d.r.Intn(20))
	}
	return uint64(d.r.Intn(d.size + 1))
}

func (d *doer) bits() int {
	if d.r.Intn(12) == 0 {
		return d.r.Intn(130) - 20
	}
	return 8 << d.r.Intn(4)
}

func (d *doer) many() int {
	if d.r.Intn(12) == 0 {
		return d.r.Intn(30) - 5
	}
	return d.r.Intn(5)
}

func (d *doer) list() []uint64 {
	list := make([]uint64, max(d.many(), 0))
	for i := range list {
		list[i] = d.r.Uint64() >> d.r.Intn(64)
	}
	return list
}

func (d *doer) step(t *testing.T) {
	t.Helper()
	at, bits, n, list := d.address(), d.bits(), d.many(), d.list()
	switch d.r.Intn(3) {
	case 0:
		want, code := d.want.read(at, bits, n)
		checkRead(t, d.m, at, bits, n, want, code)
	case 1:
		checkWrite(t, d.m, at, bits, list, d.want.write(at, bits, list))
	case 2:
		if want := wantThere(d.size, at, n); d.m.There(at, n) != want {
			t.Errorf("P12.2: There(%d, %d) of %d bytes isn't %v", at, n, d.size, want)
		}
	}
}

func TestByChance(t *testing.T) {
	r := rand.New(rand.NewSource(121))
	for range 300 {
		b := make([]byte, r.Intn(80))
		r.Read(b)
		d := &doer{r: r, m: made(t, b...), want: anew(b), size: len(b)}
		for range 60 {
			d.step(t)
		}
		checkTrace(t, d.m, d.want.trace)
		checkBytes(t, d.m, d.want.bytes()...)
		checkFollows(t, b, d.m)
	}
}

// P12.3

// checkFollows does to the first bytes what the trace says, and looks whether
// all that it says was read is what lay there.
func checkFollows(t *testing.T, first []byte, m *mem.Mem) {
	t.Helper()
	b := slices.Clone(first)
	for i, x := range m.Trace() {
		if x.Write {
			b[x.At] = x.Byte
		}
		if b[x.At] != x.Byte {
			t.Errorf("P12.3: the trace's %d isn't what lay there: %v", i, x)
		}
	}
	if !bytes.Equal(b, m.Bytes()) {
		t.Errorf("P12.3: by the trace the bytes are %v, not %v", b, m.Bytes())
	}
}

func TestWhatIsWrittenIsRead(t *testing.T) {
	r := rand.New(rand.NewSource(123))
	for range 400 {
		first := counted(150)
		m := made(t, first...)
		bits, n := 8<<r.Intn(4), r.Intn(17)
		at := uint64(r.Intn(150 - n*bits/8 + 1))
		list, want := make([]uint64, n), make([]uint64, n)
		for i := range list {
			list[i] = r.Uint64()
			want[i] = list[i] << (64 - bits) >> (64 - bits)
		}
		checkWrite(t, m, at, bits, list, api.OK)
		checkRead(t, m, at, bits, n, want, api.OK)
		checkFollows(t, first, m)
	}
}
