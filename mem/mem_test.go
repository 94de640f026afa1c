package mem_test

import (
	"bytes"
	"math"
	"slices"
	"testing"

	"lockstep/api"
	"lockstep/mem"
)

func made(t *testing.T, b ...byte) *mem.Mem {
	t.Helper()
	m, e := mem.New(b)
	if e != api.OK || m == nil {
		t.Fatalf("P12.1: New(%d bytes): %v", len(b), e)
	}
	return m
}

// counted gives n bytes: 1, 2, and so on, round at 256.
func counted(n int) []byte {
	b := make([]byte, n)
	for i := range b {
		b[i] = byte(i + 1)
	}
	return b
}

// reads are the touches of bytes that are read, one behind the other.
func reads(at uint64, b ...byte) []api.Touch { return touches(false, at, b) }

func writes(at uint64, b ...byte) []api.Touch { return touches(true, at, b) }

func touches(write bool, at uint64, b []byte) []api.Touch {
	var list []api.Touch
	for i, x := range b {
		list = append(list, api.Touch{Write: write, At: at + uint64(i), Byte: x})
	}
	return list
}

func checkRead(t *testing.T, m *mem.Mem, at uint64, bits, n int, want []uint64, code api.Code) {
	t.Helper()
	if got, e := m.Read(at, bits, n); e != code || !slices.Equal(got, want) {
		t.Errorf("P12.1: Read(%d, %d, %d): %x %v, not %x %v", at, bits, n, got, e, want, code)
	}
}

func checkWrite(t *testing.T, m *mem.Mem, at uint64, bits int, list []uint64, code api.Code) {
	t.Helper()
	if e := m.Write(at, bits, list); e != code {
		t.Errorf("P12.1: Write(%d, %d, %x): %v, not %v", at, bits, list, e, code)
	}
}

func checkBytes(t *testing.T, m *mem.Mem, want ...byte) {
	t.Helper()
	if got := m.Bytes(); !bytes.Equal(got, want) {
		t.Errorf("P12.2: Bytes(): %v, not %v", got, want)
	}
}

func checkTrace(t *testing.T, m *mem.Mem, want ...[]api.Touch) {
	t.Helper()
	if got := m.Trace(); !slices.Equal(got, slices.Concat(want...)) {
		t.Errorf("P12.2: Trace(): %v, not %v", got, slices.Concat(want...))
	}
}

// P12.1: New

func TestNewTakesUpToMaxMem(t *testing.T) {
	for _, n := range []int{0, 1, 7, 8, api.MaxMem - 1, api.MaxMem} {
		b := counted(n)
		m := made(t, b...)
		checkBytes(t, m, b...)
		checkTrace(t, m)
	}
	checkBytes(t, made(t, nil...))
	for _, n := range []int{api.MaxMem + 1, 2 * api.MaxMem, 1 << 16} {
		if m, e := mem.New(make([]byte, n)); e != api.Size || m != nil {
			t.Errorf("P12.1: New(%d bytes): %v %v", n, m, e)
		}
	}
}

// P12.1: Read and Write

func TestTheExample(t *testing.T) {
	m := made(t, 9, 9, 9, 9, 9)
	checkWrite(t, m, 2, 16, []uint64{258}, api.OK)
	checkBytes(t, m, 9, 9, 2, 1, 9)
	checkTrace(t, m, writes(2, 2, 1))
}

func TestReadOfEachWidth(t *testing.T) {
	b := []byte{0x80, 0x11, 0xa2, 0x33, 0xc4, 0x55, 0xe6, 0x77, 0xf8}
	for _, some := range []struct {
		at   uint64
		bits int
		want []uint64
	}{
		{0, 8, []uint64{0x80, 0x11, 0xa2, 0x33, 0xc4, 0x55, 0xe6, 0x77, 0xf8}},
		{8, 8, []uint64{0xf8}},
		{0, 16, []uint64{0x1180, 0x33a2, 0x55c4, 0x77e6}},
		{1, 16, []uint64{0xa211, 0xc433, 0xe655, 0xf877}},
		{0, 32, []uint64{0x33a21180, 0x77e655c4}},
		{5, 32, []uint64{0xf877e655}},
		{0, 64, []uint64{0x77e655c433a21180}},
		{1, 64, []uint64{0xf877e655c433a211}},
	} {
		m := made(t, b...)
		checkRead(t, m, some.at, some.bits, len(some.want), some.want, api.OK)
		checkTrace(t, m, reads(some.at, b[some.at:int(some.at)+len(some.want)*some.bits/8]...))
		checkBytes(t, m, b...)
	}
}

func TestWriteOfEachWidthCuts(t *testing.T) {
	for _, some := range []struct {
		bits int
		list []uint64
		want []byte
	}{
		{8, []uint64{0x1ff, 0x100, math.MaxUint64}, []byte{0xff, 0, 0xff}},
		{16, []uint64{0x12345, 0xffff0001}, []byte{0x45, 0x23, 1, 0}},
		{32, []uint64{0xabcd_89ab_cdef, 1 << 32}, []byte{0xef, 0xcd, 0xab, 0x89, 0, 0, 0, 0}},
		{64, []uint64{0x0123_4567_89ab_cdef}, []byte{0xef, 0xcd, 0xab, 0x89, 0x67, 0x45, 0x23, 1}},
	} {
		m := made(t, 7, 7, 7, 7, 7, 7, 7, 7, 7, 7)
		checkWrite(t, m, 1, some.bits, some.list, api.OK)
		want := []byte{7, 7, 7, 7, 7, 7, 7, 7, 7, 7}
		copy(want[1:], some.want)
		checkBytes(t, m, want...)
		checkTrace(t, m, writes(1, some.want...))
	}
}

func TestNoWidth(t *testing.T) {
	m := made(t, counted(64)...)
	for _, bits := range []int{math.MinInt, -64, -8, -1, 0, 1, 2, 4, 7, 9, 15, 17, 24, 31, 33, 40, 48, 56, 63, 65, 128, 256, 8 + 1<<32, math.MaxInt} {
		for n := range 3 {
			checkRead(t, m, 0, bits, n, nil, api.Arg)
			checkWrite(t, m, 0, bits, make([]uint64, n), api.Arg)
			// Arg is named ahead of Trapped.
			checkRead(t, m, 64, bits, n, nil, api.Arg)
			checkWrite(t, m, 64, bits, make([]uint64, n), api.Arg)
		}
	}
	checkTrace(t, m)
	checkBytes(t, m, counted(64)...)
}

func TestHowMany(t *testing.T) {
	m := made(t, counted(300)...)
	for _, bits := range []int{8, 16, 32, 64} {
		for _, n := range []int{math.MinInt, -16, -1, 17, 18, 64, 1 << 16, math.MaxInt} {
			checkRead(t, m, 0, bits, n, nil, api.Arg)
			checkRead(t, m, 300, bits, n, nil, api.Arg)
		}
		for _, n := range []int{17, 18, 64, 1 << 12} {
			checkWrite(t, m, 0, bits, make([]uint64, n), api.Arg)
			checkWrite(t, m, 300, bits, make([]uint64, n), api.Arg)
		}
	}
	checkTrace(t, m)
	checkBytes(t, m, counted(300)...)
	if l, e := m.Read(3, 64, 16); e != api.OK || len(l) != 16 || l[15] != 0x838281807f7e7d7c {
		t.Errorf("P12.1: Read(3, 64, 16): %x %v", l, e)
	}
	checkWrite(t, m, 172, 64, make([]uint64, 16), api.OK)
	checkTrace(t, m, reads(3, counted(131)[3:]...), writes(172, make([]byte, 128)...))
	checkBytes(t, m, append(counted(172), make([]byte, 128)...)...)
}

// None of something is there at each address.
func TestNoNumbers(t *testing.T) {
	for _, m := range []*mem.Mem{made(t), made(t, 1, 2, 3)} {
		was := m.Bytes()
		for _, at := range []uint64{0, 2, 3, 4, 1 << 63, math.MaxUint64} {
			for _, bits := range []int{8, 16, 32, 64} {
				checkRead(t, m, at, bits, 0, nil, api.OK)
				checkWrite(t, m, at, bits, nil, api.OK)
				checkWrite(t, m, at, bits, []uint64{}, api.OK)
			}
		}
		checkTrace(t, m)
		checkBytes(t, m, was...)
	}
}

func TestTrapsOfOneNumber(t *testing.T) {
	b := counted(9)
	for _, bits := range []int{8, 16, 32, 64} {
		size := bits / 8
		for at := range uint64(12) {
			m := made(t, b...)
			if int(at)+size <= 9 {
				checkWrite(t, m, at, bits, []uint64{0}, api.OK)
				continue
			}
			checkRead(t, m, at, bits, 1, nil, api.Trapped)
			checkWrite(t, m, at, bits, []uint64{0}, api.Trapped)
			checkTrace(t, m)
			checkBytes(t, m, b...)
		}
	}
}

// What is ahead of a trap is touched; that one, and what is behind, isn't.
func TestTrapsBehindSome(t *testing.T) {
	b := counted(9)
	for _, some := range []struct {
		at         uint64
		bits, n, i int
	}{
		{5, 8, 16, 4}, {8, 8, 2, 1}, {0, 8, 10, 9},
		{5, 16, 3, 2}, {6, 16, 2, 1}, {1, 16, 5, 4}, {0, 16, 5, 4},
		{1, 32, 3, 2}, {2, 32, 2, 1}, {5, 32, 2, 1},
		{0, 64, 2, 1}, {1, 64, 16, 1}, {2, 64, 2, 0},
	} {
		touched := b[some.at : int(some.at)+some.i*some.bits/8]
		m := made(t, b...)
		checkRead(t, m, some.at, some.bits, some.n, nil, api.Trapped)
		checkTrace(t, m, reads(some.at, touched...))
		checkBytes(t, m, b...)
		m = made(t, b...)
		checkWrite(t, m, some.at, some.bits, make([]uint64, some.n), api.Trapped)
		checkTrace(t, m, writes(some.at, make([]byte, len(touched))...))
		want := slices.Clone(b)
		clear(want[some.at : int(some.at)+len(touched)])
		checkBytes(t, m, want...)
	}
}

func TestAddressesThatAreGreat(t *testing.T) {
	b := counted(api.MaxMem)
	m := made(t, b...)
	for _, at := range []uint64{api.MaxMem, api.MaxMem + 1, 1 << 16, 1 << 31, 1 << 32, 1<<32 + 1, 1 << 63, 1<<63 + 1, math.MaxUint64 - 7, math.MaxUint64 - 1, math.MaxUint64} {
		for _, bits := range []int{8, 16, 32, 64} {
			for _, n := range []int{1, 2, 16} {
				checkRead(t, m, at, bits, n, nil, api.Trapped)
				checkWrite(t, m, at, bits, make([]uint64, n), api.Trapped)
			}
		}
	}
	checkTrace(t, m)
	checkBytes(t, m, b...)
	checkRead(t, m, api.MaxMem-1, 8, 1, []uint64{0}, api.OK)
	checkRead(t, m, api.MaxMem-2, 16, 1, []uint64{0x00ff}, api.OK)
	checkTrace(t, m, reads(api.MaxMem-1, 0), reads(api.MaxMem-2, 0xff, 0))
}

func TestNoMemory(t *testing.T) {
	none, _ := mem.New(make([]byte, api.MaxMem+1))
	for _, m := range []*mem.Mem{made(t), none, new(mem.Mem)} {
		checkRead(t, m, 0, 8, 1, nil, api.Trapped)
		checkWrite(t, m, 0, 8, []uint64{1}, api.Trapped)
		checkRead(t, m, 0, 9, 1, nil, api.Arg)
		checkBytes(t, m)
		checkTrace(t, m)
		if m.There(0, 1) || m.There(0, 0) {
			t.Error("P12.2: a byte of no memory is there")
		}
	}
}

// P12.2

func TestTraceIsInOrder(t *testing.T) {
	m := made(t, 1, 2, 3, 4)
	checkRead(t, m, 2, 16, 1, []uint64{0x0403}, api.OK)
	checkWrite(t, m, 1, 16, []uint64{0x0908}, api.OK)
	checkTrace(t, m, reads(2, 3, 4), writes(1, 8, 9))
	checkRead(t, m, 0, 32, 1, []uint64{0x04090801}, api.OK)
	checkWrite(t, m, 3, 8, []uint64{4}, api.OK)
	checkWrite(t, m, 4, 8, []uint64{5}, api.Trapped)
	checkRead(t, m, 3, 8, 3, nil, api.Trapped)
	checkTrace(t, m, reads(2, 3, 4), writes(1, 8, 9), reads(0, 1, 8, 9, 4), writes(3, 4), reads(3, 4))
	checkBytes(t, m, 1, 8, 9, 4)
}

func TestThere(t *testing.T) {
	for _, size := range []int{0, 1, 9, 4095, 4096} {
		m := made(t, counted(size)...)
		for _, at := range []uint64{0, 1, 4, 8, 9, 10, 4094, 4095, 4096, 4097, 1 << 32, 1 << 63, math.MaxUint64 - 1, math.MaxUint64} {
			for _, n := range []int{math.MinInt, -1, 0, 1, 2, 5, 8, 9, 10, 4095, 4096, 4097, 1 << 32, math.MaxInt} {
				if want := wantThere(size, at, n); m.There(at, n) != want {
					t.Errorf("P12.2: There(%d, %d) of %d bytes isn't %v", at, n, size, want)
				}
			}
		}
		checkTrace(t, m)
	}
}
