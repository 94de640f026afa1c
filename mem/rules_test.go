package mem_test

import (
	"bytes"
	"slices"
	"testing"

	"lockstep/api"
	"lockstep/mem"
)

// Rules 3 to 5

func TestNothingHandedInIsChanged(t *testing.T) {
	room := []byte{1, 2, 3, 4, 77, 78, 79, 80, 81, 82, 83, 84}
	m, e := mem.New(room[:4])
	if e != api.OK {
		t.Fatal(e)
	}
	list := []uint64{0x1ff, 0x2ff, 99, 98}
	checkWrite(t, m, 0, 8, list[:2], api.OK)
	checkWrite(t, m, 2, 16, list[:2], api.Trapped)
	checkWrite(t, m, 2, 9, list[:2], api.Arg)
	checkRead(t, m, 3, 8, 2, nil, api.Trapped)
	if !bytes.Equal(room, []byte{1, 2, 3, 4, 77, 78, 79, 80, 81, 82, 83, 84}) {
		t.Errorf("P12.1: bytes that were handed in were changed: %v", room)
	}
	if !slices.Equal(list, []uint64{0x1ff, 0x2ff, 99, 98}) {
		t.Errorf("P12.1: a list that was handed in was changed: %v", list)
	}
}

func TestNothingHandedInIsKept(t *testing.T) {
	b, list := []byte{1, 2, 3, 4}, []uint64{5, 6}
	m := made(t, b...)
	clear(b)
	checkBytes(t, m, 1, 2, 3, 4)
	checkWrite(t, m, 0, 8, list, api.OK)
	clear(list)
	checkBytes(t, m, 5, 6, 3, 4)
	checkTrace(t, m, writes(0, 5, 6))
}

func TestAnswersAreNewMemory(t *testing.T) {
	m := made(t, 1, 2, 3, 4)
	list, _ := m.Read(0, 8, 4)
	clear(list[:cap(list)])
	checkBytes(t, m, 1, 2, 3, 4)
	b := m.Bytes()
	clear(b[:cap(b)])
	checkBytes(t, m, 1, 2, 3, 4)
}

// What is touched behind an answer doesn't come to lie in its spare room, and
// what is written there isn't told, however long the trace is.
func TestTracesAreNewMemory(t *testing.T) {
	m := made(t, 1, 2, 3, 4)
	var want []api.Touch
	for range 40 {
		trace := m.Trace()
		all := trace[:cap(trace)]
		fill(all)
		checkTrace(t, m, want)
		checkWrite(t, m, 2, 8, []uint64{9}, api.OK)
		want = append(want, writes(2, 9)...)
		fill(all)
		checkTrace(t, m, want)
	}
}

func fill(list []api.Touch) {
	for i := range list {
		list[i] = api.Touch{Write: true, At: 77, Byte: 77}
	}
}

// Answers that are given stay as they were.
func TestAnswersStay(t *testing.T) {
	m := made(t, 1, 2, 3, 4)
	list, _ := m.Read(0, 16, 2)
	b, trace := m.Bytes(), m.Trace()
	checkWrite(t, m, 0, 32, []uint64{0}, api.OK)
	checkRead(t, m, 0, 16, 2, []uint64{0, 0}, api.OK)
	if !slices.Equal(list, []uint64{0x0201, 0x0403}) || !bytes.Equal(b, []byte{1, 2, 3, 4}) || !slices.Equal(trace, reads(0, 1, 2, 3, 4)) {
		t.Errorf("P12.1, P12.2: answers were changed: %x %v %v", list, b, trace)
	}
}

func TestMemoriesAreApart(t *testing.T) {
	b := []byte{1, 2, 3}
	one, two := made(t, b...), made(t, b...)
	checkWrite(t, one, 0, 8, []uint64{7}, api.OK)
	checkRead(t, two, 0, 8, 1, []uint64{1}, api.OK)
	checkTrace(t, one, writes(0, 7))
	checkTrace(t, two, reads(0, 1))
	checkBytes(t, one, 7, 2, 3)
	checkBytes(t, two, 1, 2, 3)
}

// The same calls are answered the same way, whatever was asked between them.
func TestTheSameAgain(t *testing.T) {
	m := made(t, counted(20)...)
	for range 3 {
		checkRead(t, m, 1, 16, 2, []uint64{0x0302, 0x0504}, api.OK)
		checkRead(t, m, 0, 12, 2, nil, api.Arg)
		checkRead(t, m, 19, 16, 1, nil, api.Trapped)
		m.There(3, 4)
		m.Trace()
		m.Bytes()
	}
	checkTrace(t, m, reads(1, 2, 3, 4, 5), reads(1, 2, 3, 4, 5), reads(1, 2, 3, 4, 5))
}
