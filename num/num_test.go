package num_test

import (
	"bytes"
	"encoding/binary"
	"math"
	"math/big"
	"slices"
	"testing"

	"lockstep/api"
	"lockstep/num"
)

const greatest = 1<<31 - 1

// edges are the numbers about which something turns: another byte, a bit more.
func edges() []uint64 {
	l := []uint64{0, 1, 2, 100, 300, 0x5555555555555555, 0xaaaaaaaaaaaaaaaa, 0x0123456789abcdef, 0xfedcba9876543210}
	for n := range 64 {
		p := uint64(1) << n
		l = append(l, p-1, p, p+1, -p)
	}
	return append(l, math.MaxUint64-1, math.MaxUint64)
}

// fill is n bytes, all alike.
func fill(n int, c byte) []byte { return bytes.Repeat([]byte{c}, n) }

// join is bytes one behind the other, in memory of its own.
func join(parts ...[]byte) []byte { return bytes.Join(parts, nil) }

// wantPut is v as bytes, worked out from how many it needs.
func wantPut(v uint64) []byte {
	n := 1
	for new(big.Int).Lsh(big.NewInt(1), uint(7*n)).Cmp(new(big.Int).SetUint64(v)) <= 0 {
		n++
	}
	b := make([]byte, n)
	for i := range b {
		d := new(big.Int).Quo(new(big.Int).SetUint64(v), new(big.Int).Lsh(big.NewInt(1), uint(7*i)))
		b[i] = byte(new(big.Int).Mod(d, big.NewInt(128)).Uint64())
		if i < n-1 {
			b[i] += 128
		}
	}
	return b
}

// wantGet is what Get must answer, worked out by numbers without a width.
func wantGet(b []byte) (uint64, int, api.Code) {
	n := slices.IndexFunc(b, func(c byte) bool { return c < 128 }) + 1
	if n == 0 && len(b) < 10 {
		return 0, 0, api.Short
	}
	if n == 0 || n > 10 || n > 1 && b[n-1] == 0 {
		return 0, 0, api.Malformed
	}
	v := new(big.Int)
	for i := range n {
		v.Add(v, new(big.Int).Lsh(big.NewInt(int64(b[i]%128)), uint(7*i)))
	}
	if !v.IsUint64() {
		return 0, 0, api.Malformed
	}
	return v.Uint64(), n, api.OK
}

func checkGet(t *testing.T, promise string, b []byte, v uint64, n int, e api.Code) {
	t.Helper()
	if gv, gn, ge := num.Get(b); gv != v || gn != n || ge != e {
		t.Errorf("%s: Get(%v) is %d, %d, %d, not %d, %d, %d", promise, b, gv, gn, ge, v, n, e)
	}
}

func checkList(t *testing.T, promise string, b []byte, most int, l []int, n int, e api.Code) {
	t.Helper()
	if gl, gn, ge := num.List(b, most); !slices.Equal(gl, l) || gn != n || ge != e {
		t.Errorf("%s: List(%v, %d) is %v, %d, %d, not %v, %d, %d", promise, b, most, gl, gn, ge, l, n, e)
	}
}

// P2.1

func TestPutByHand(t *testing.T) {
	for _, c := range []struct {
		v uint64
		b []byte
	}{
		{0, []byte{0}}, {1, []byte{1}}, {127, []byte{127}}, {128, []byte{128, 1}}, {129, []byte{129, 1}},
		{255, []byte{255, 1}}, {256, []byte{128, 2}}, {300, []byte{172, 2}}, {16383, []byte{255, 127}}, {16384, []byte{128, 128, 1}},
		{greatest, []byte{255, 255, 255, 255, 7}}, {greatest + 1, []byte{128, 128, 128, 128, 8}},
		{1<<63 - 1, join(fill(8, 255), []byte{127})}, {1 << 63, join(fill(9, 128), []byte{1})}, {math.MaxUint64, join(fill(9, 255), []byte{1})},
	} {
		if b := num.Put(c.v); !bytes.Equal(b, c.b) {
			t.Errorf("P2.1: Put(%d) is %v, not %v", c.v, b, c.b)
		}
	}
}

func TestPutOfEdges(t *testing.T) {
	for _, v := range edges() {
		b := num.Put(v)
		if want := wantPut(v); !bytes.Equal(b, want) {
			t.Errorf("P2.1: Put(%d) is %v, not %v", v, b, want)
		}
		if want := binary.AppendUvarint(nil, v); !bytes.Equal(b, want) {
			t.Errorf("P2.1: Put(%d) is %v, not %v", v, b, want)
		}
	}
}

func TestPutOfAllSmallNumbers(t *testing.T) {
	for v := range uint64(1 << 15) {
		if b := num.Put(v); !bytes.Equal(b, wantPut(v)) {
			t.Fatalf("P2.1: Put(%d) is %v", v, b)
		}
	}
}

func TestGetByHand(t *testing.T) {
	for _, c := range []struct {
		b []byte
		v uint64
		n int
	}{
		{[]byte{0}, 0, 1}, {[]byte{0, 0}, 0, 1}, {[]byte{0, 128}, 0, 1}, {[]byte{5, 128, 0}, 5, 1}, {[]byte{127, 255}, 127, 1},
		{[]byte{128, 1}, 128, 2}, {[]byte{172, 2}, 300, 2}, {[]byte{172, 2, 128, 0}, 300, 2}, {[]byte{128, 128, 1}, 16384, 3},
		{join(fill(8, 255), []byte{127}), 1<<63 - 1, 9}, {join(fill(8, 128), []byte{1}), 1 << 56, 9},
		{join(fill(9, 128), []byte{1}), 1 << 63, 10}, {join(fill(9, 255), []byte{1}), math.MaxUint64, 10}, {join(fill(9, 255), []byte{1}, fill(20, 255)), math.MaxUint64, 10},
	} {
		checkGet(t, "P2.1", c.b, c.v, c.n, api.OK)
	}
}

func TestGetOfBytesThatEndTooSoon(t *testing.T) {
	checkGet(t, "P2.1", nil, 0, 0, api.Short)
	checkGet(t, "P2.1", []byte{}, 0, 0, api.Short)
	for n := 1; n <= 9; n++ {
		for _, c := range []byte{128, 129, 200, 255} {
			checkGet(t, "P2.1", fill(n, c), 0, 0, api.Short)
		}
	}
}

func TestGetOfMoreBytesThanNeeded(t *testing.T) {
	for n := 1; n <= 9; n++ {
		for _, c := range []byte{128, 129, 255} {
			checkGet(t, "P2.1", join(fill(n, c), []byte{0}), 0, 0, api.Malformed)
			checkGet(t, "P2.1", join(fill(n, c), []byte{0, 1, 128}), 0, 0, api.Malformed)
		}
	}
}

func TestGetOfMoreThanTenBytes(t *testing.T) {
	for n := 10; n <= 40; n++ {
		for _, c := range []byte{128, 129, 255} {
			// Ten bytes of which each says that more are to come aren't too short.
			checkGet(t, "P2.1", fill(n, c), 0, 0, api.Malformed)
			for _, last := range []byte{0, 1, 2, 127} {
				checkGet(t, "P2.1", join(fill(n, c), []byte{last}), 0, 0, api.Malformed)
			}
		}
	}
}

func TestGetOfTooGreatNumbers(t *testing.T) {
	for _, c := range []byte{128, 129, 255} {
		for last := 2; last < 256; last++ {
			b := join(fill(9, c), []byte{byte(last)})
			checkGet(t, "P2.1", b, 0, 0, api.Malformed)
			checkGet(t, "P2.1", join(b, []byte{1, 0}), 0, 0, api.Malformed)
		}
	}
}

func TestGetOfAllShortBytes(t *testing.T) {
	for x := range 256 {
		one := []byte{byte(x)}
		v, n, e := wantGet(one)
		checkGet(t, "P2.1", one, v, n, e)
		for y := range 256 {
			two := []byte{byte(x), byte(y)}
			v, n, e := wantGet(two)
			checkGet(t, "P2.1", two, v, n, e)
			for _, z := range []byte{0, 1, 2, 63, 64, 127, 128, 129, 254, 255} {
				three := append(two[:2:2], z)
				v, n, e := wantGet(three)
				checkGet(t, "P2.1", three, v, n, e)
			}
		}
	}
}

// TestGetOfBytesOfFew goes through all bytes of up to 7 that are of these
// four, behind up to 6 that are 128 or more: all lengths to 13.
func TestGetOfBytesOfFew(t *testing.T) {
	few := []byte{0, 1, 128, 255}
	for head := range 7 {
		for n := range 8 {
			for code := range 1 << (2 * n) {
				b := fill(head, 129)
				for i := range n {
					b = append(b, few[code>>(2*i)&3])
				}
				v, k, e := wantGet(b)
				checkGet(t, "P2.1", b, v, k, e)
			}
		}
	}
}

func TestGetLooksAtNothingBehind(t *testing.T) {
	// The bytes end ahead of what lies in their spare room.
	whole := []byte{128, 1, 7}
	checkGet(t, "P2.1", whole[:1], 0, 0, api.Short)
	checkGet(t, "P2.1", whole[:0], 0, 0, api.Short)
	checkGet(t, "P2.1", whole[:2], 128, 2, api.OK)
}

// P2.2

func TestRowByHand(t *testing.T) {
	for _, c := range []struct {
		list []int
		b    []byte
	}{
		{nil, []byte{0}}, {[]int{}, []byte{0}}, {[]int{0}, []byte{1, 0}}, {[]int{5, 300}, []byte{2, 5, 172, 2}}, {[]int{300, 5}, []byte{2, 172, 2, 5}}, {[]int{7, 7, 7}, []byte{3, 7, 7, 7}},
		{[]int{127, 128}, []byte{2, 127, 128, 1}}, {[]int{greatest}, []byte{1, 255, 255, 255, 255, 7}},
		// Row names no greatest number; List does.
		{[]int{greatest + 1}, []byte{1, 128, 128, 128, 128, 8}}, {[]int{math.MaxInt64}, join([]byte{1}, fill(8, 255), []byte{127})},
	} {
		if b := num.Row(c.list); !bytes.Equal(b, c.b) {
			t.Errorf("P2.2: Row(%v) is %v, not %v", c.list, b, c.b)
		}
	}
}

func TestRowOfManyNumbers(t *testing.T) {
	for _, n := range []int{1, 2, 64, 126, 127, 128, 129, 255, 256, 300, 16383, 16384, 20000} {
		list := make([]int, n)
		want := wantPut(uint64(n))
		for i := range list {
			list[i] = i * 37
			want = append(want, wantPut(uint64(i*37))...)
		}
		if b := num.Row(list); !bytes.Equal(b, want) {
			t.Errorf("P2.2: Row of %d numbers is wrong", n)
		}
	}
}

func TestRowOfNumbersBelowNothing(t *testing.T) {
	for _, low := range []int{-1, -2, -128, -300, math.MinInt32, math.MinInt64} {
		for n := 1; n <= 5; n++ {
			for i := range n {
				list := make([]int, n)
				list[i] = low
				if b := num.Row(list); len(b) != 0 {
					t.Errorf("P2.2: Row(%v) is %v", list, b)
				}
			}
		}
	}
	if b := num.Row([]int{-1, -1}); len(b) != 0 {
		t.Errorf("P2.2: Row(-1, -1) is %v", b)
	}
}

func TestListByHand(t *testing.T) {
	for _, c := range []struct {
		b    []byte
		most int
		l    []int
		n    int
	}{
		{[]byte{0}, 0, nil, 1}, {[]byte{0}, 9, nil, 1}, {[]byte{0, 128, 0}, 0, nil, 1}, {[]byte{1, 0}, 1, []int{0}, 2},
		{[]byte{2, 5, 172, 2}, 2, []int{5, 300}, 4}, {[]byte{2, 5, 172, 2, 9}, 2, []int{5, 300}, 4}, {[]byte{2, 5, 172, 2, 128}, 3, []int{5, 300}, 4},
		{[]byte{2, 5, 172, 2}, math.MaxInt, []int{5, 300}, 4}, {[]byte{1, 255, 255, 255, 255, 7}, 1, []int{greatest}, 6},
		{[]byte{3, 2, 1, 0, 2, 1}, 3, []int{2, 1, 0}, 4},
	} {
		checkList(t, "P2.2", c.b, c.most, c.l, c.n, api.OK)
	}
}

func TestListOfManyNumbers(t *testing.T) {
	for _, n := range []int{64, 127, 128, 129, 300, 16384} {
		want := make([]int, n)
		b := wantPut(uint64(n))
		for i := range want {
			want[i] = i * 41
			b = append(b, wantPut(uint64(i*41))...)
		}
		checkList(t, "P2.2", append(b, 3), n, want, len(b), api.OK)
		checkList(t, "P2.2", b, n-1, nil, 0, api.Size)
		checkList(t, "P2.2", b[:len(b)-1], n, nil, 0, api.Short)
	}
}

func TestListOfWrongCounts(t *testing.T) {
	for _, most := range []int{math.MinInt, -1, 0, 1, 64, math.MaxInt} {
		checkList(t, "P2.2", nil, most, nil, 0, api.Short)
		checkList(t, "P2.2", []byte{128}, most, nil, 0, api.Short)
		checkList(t, "P2.2", fill(9, 255), most, nil, 0, api.Short)
		checkList(t, "P2.2", []byte{129, 0, 1}, most, nil, 0, api.Malformed)
		checkList(t, "P2.2", fill(10, 255), most, nil, 0, api.Malformed)
		checkList(t, "P2.2", join(fill(9, 255), []byte{2}), most, nil, 0, api.Malformed)
	}
}

func TestListOfMoreThanMost(t *testing.T) {
	for _, most := range []int{math.MinInt, math.MinInt32, -1} {
		checkList(t, "P2.2", []byte{0}, most, nil, 0, api.Size)
		checkList(t, "P2.2", []byte{1, 1}, most, nil, 0, api.Size)
		checkList(t, "P2.2", num.Put(math.MaxUint64), most, nil, 0, api.Size)
	}
	checkList(t, "P2.2", []byte{1, 5}, 0, nil, 0, api.Size)
	checkList(t, "P2.2", []byte{2, 5, 6}, 1, nil, 0, api.Size)
	checkList(t, "P2.2", num.Put(65), 64, nil, 0, api.Size)
	for _, v := range []uint64{1 << 63, math.MaxUint64} {
		checkList(t, "P2.2", join(num.Put(v), []byte{1, 2, 3}), math.MaxInt, nil, 0, api.Size)
	}
	// That there are too many goes ahead of what is wrong with each.
	checkList(t, "P2.2", []byte{2, 128, 0, 1}, 1, nil, 0, api.Size)
	checkList(t, "P2.2", []byte{2, 128}, 1, nil, 0, api.Size)
	checkList(t, "P2.2", []byte{2}, 1, nil, 0, api.Size)
}

func TestListOfWrongNumbers(t *testing.T) {
	for _, c := range []struct {
		b []byte
		e api.Code
	}{
		{[]byte{1}, api.Short}, {[]byte{2, 5}, api.Short}, {[]byte{2, 5, 172}, api.Short}, {join([]byte{1}, fill(9, 128)), api.Short},
		{[]byte{1, 128, 0}, api.Malformed}, {[]byte{2, 5, 172, 0}, api.Malformed}, {[]byte{2, 172, 0, 172}, api.Malformed}, {join([]byte{1}, fill(10, 128)), api.Malformed}, {join([]byte{2, 3}, fill(9, 255), []byte{2}), api.Malformed},
	} {
		checkList(t, "P2.2", c.b, 2, nil, 0, c.e)
	}
	// As many as may be, told by few bytes.
	for _, v := range []uint64{greatest, 1 << 40, math.MaxInt64} {
		checkList(t, "P2.2", join(num.Put(v), []byte{1, 2, 3}), math.MaxInt, nil, 0, api.Short)
		checkList(t, "P2.2", join(num.Put(v), []byte{1, 2, 128, 0}), math.MaxInt, nil, 0, api.Malformed)
	}
}

func TestListOfTooGreatNumbers(t *testing.T) {
	for _, v := range []uint64{greatest + 1, greatest + 2, 1<<32 - 1, 1 << 32, 1<<32 + 5, 1<<63 - 1, 1 << 63, 1<<63 + 5, math.MaxUint64} {
		great := num.Put(v)
		checkList(t, "P2.2", join([]byte{1}, great), 1, nil, 0, api.Size)
		checkList(t, "P2.2", join([]byte{3}, great, []byte{1, 2, 9}), 3, nil, 0, api.Size)
		checkList(t, "P2.2", join([]byte{3, 1}, great, []byte{2, 9}), 3, nil, 0, api.Size)
		checkList(t, "P2.2", join([]byte{3, 1, 2}, great, []byte{9}), 3, nil, 0, api.Size)
		// What Get tells of each goes ahead of that, wherever it stands.
		checkList(t, "P2.2", join([]byte{2}, great), 2, nil, 0, api.Short)
		checkList(t, "P2.2", join([]byte{2}, great, []byte{128}), 2, nil, 0, api.Short)
		checkList(t, "P2.2", join([]byte{2}, great, []byte{128, 0}), 2, nil, 0, api.Malformed)
		checkList(t, "P2.2", join([]byte{2, 128, 0}, great), 2, nil, 0, api.Malformed)
	}
}

func TestNothingHandedInIsChangedOrKept(t *testing.T) {
	b := []byte{2, 5, 172, 2, 9, 200, 201}
	before := bytes.Clone(b)
	l, _, _ := num.List(b[:4], 2)
	num.Get(b[2:4])
	if !bytes.Equal(b, before) {
		t.Errorf("P2.2: the bytes became %v", b)
	}
	clear(b)
	if !slices.Equal(l, []int{5, 300}) {
		t.Errorf("P2.2: the list became %v", l)
	}
	list := []int{5, 300, 7, -1}
	row := num.Row(list[:2])
	if !slices.Equal(list, []int{5, 300, 7, -1}) {
		t.Errorf("P2.2: the list became %v", list)
	}
	clear(list)
	other := num.Row([]int{1, 2})
	clear(other[:cap(other)])
	if !bytes.Equal(row, []byte{2, 5, 172, 2}) {
		t.Errorf("P2.2: the row became %v", row)
	}
}

// P2.3

func TestWhatIsPutIsGotAgain(t *testing.T) {
	for _, v := range edges() {
		b := num.Put(v)
		checkGet(t, "P2.3", b, v, len(b), api.OK)
		for _, c := range []byte{0, 1, 127, 128, 255} {
			checkGet(t, "P2.3", append(bytes.Clone(b), c), v, len(b), api.OK)
		}
	}
	for v := range uint64(1 << 17) {
		b := num.Put(v)
		if g, n, e := num.Get(b); g != v || n != len(b) || e != api.OK {
			t.Fatalf("P2.3: Get(Put(%d)) is %d, %d, %d", v, g, n, e)
		}
	}
}

func TestWhatIsGotIsPutAgain(t *testing.T) {
	for x := range 256 {
		for y := range 256 {
			b := []byte{byte(x), byte(y)}
			if v, n, e := num.Get(b); e == api.OK && !bytes.Equal(num.Put(v), b[:n]) {
				t.Errorf("P2.3: Put(Get(%v)) is %v", b, num.Put(v))
			}
		}
	}
}

func lists() [][]int {
	ls := [][]int{nil, {0}, {0, 0}, {1}, {1, 0}, {2, 1, 0}, {127}, {128}, {128, 127}, {300, 5}, {5, 300}, {greatest}, {0, greatest}, {greatest, greatest, greatest}}
	for _, n := range []int{127, 128, 300} {
		l := make([]int, n)
		for i := range l {
			l[i] = i * i * 19
		}
		ls = append(ls, l)
	}
	return ls
}

func TestRowsAreListsAgain(t *testing.T) {
	for _, l := range lists() {
		b := num.Row(l)
		checkList(t, "P2.3", b, len(l), l, len(b), api.OK)
		for _, c := range []byte{0, 1, 128, 255} {
			checkList(t, "P2.3", append(bytes.Clone(b), c), len(l), l, len(b), api.OK)
		}
	}
}

func TestNoRowIsTheBeginningOfAnother(t *testing.T) {
	for _, v := range edges() {
		b := num.Put(v)
		for n := range b {
			checkGet(t, "P2.3", b[:n], 0, 0, api.Short)
		}
		for _, w := range edges() {
			if v != w && bytes.HasPrefix(num.Put(w), b) {
				t.Errorf("P2.3: the bytes of %d begin those of %d", v, w)
			}
		}
	}
	for i, l := range lists() {
		b := num.Row(l)
		for n := range b {
			checkList(t, "P2.3", b[:n], len(l), nil, 0, api.Short)
		}
		for k, m := range lists() {
			if i != k && bytes.HasPrefix(num.Row(m), b) {
				t.Errorf("P2.3: the row of %v begins that of %v", l, m)
			}
		}
	}
}
