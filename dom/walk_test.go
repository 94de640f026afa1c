package dom_test

import (
	"math"
	"math/rand"
	"slices"
	"testing"

	"lockstep/dom"
)

// isTree tells anew whether a list is a tree, by the chapter's words.
func isTree(list []int) bool {
	roots := 0
	for at := range list {
		if list[at] == -1 {
			roots++
		}
		if list[at] == -2 {
			continue
		}
		for range list {
			if list[at] == -1 {
				break
			}
			if at = list[at]; at < 0 || at >= len(list) {
				return false
			}
		}
		if list[at] != -1 {
			return false
		}
	}
	return roots == 1
}

// line gives a place of a tree, and those to which one comes from it, one
// behind the other; nothing of no place, or of one that isn't reached.
func line(list []int, at int) []int {
	var l []int
	for 0 <= at && at < len(list) && list[at] != -2 {
		l, at = append(l, at), list[at]
	}
	return l
}

// checkWalks checks all calls that are handed a list against the chapter's words.
func checkWalks(t *testing.T, list []int, a, b int) {
	t.Helper()
	over, meet, kids := false, -2, []int(nil)
	if isTree(list) {
		fromA, fromB := line(list, a), line(list, b)
		over = slices.Contains(fromB, a)
		if i := slices.IndexFunc(fromA, func(at int) bool { return slices.Contains(fromB, at) }); i >= 0 {
			meet = fromA[i]
		}
		for at := range list {
			if len(fromA) > 0 && list[at] == a {
				kids = append(kids, at)
			}
		}
	}
	checkAnswers(t, list, a, b, over, meet, kids...)
}

func checkAnswers(t *testing.T, list []int, a, b int, over bool, meet int, kids ...int) {
	t.Helper()
	shown := list[:min(len(list), 80)]
	if x := dom.Over(list, a, b); x != over {
		t.Errorf("P7.2: Over(%v, %d, %d): %v", shown, a, b, x)
	}
	if x := dom.Meet(list, a, b); x != meet {
		t.Errorf("P7.2: Meet(%v, %d, %d): %d, not %d", shown, a, b, x, meet)
	}
	if x := dom.Kids(list, a); !slices.Equal(x, kids) {
		t.Errorf("P7.2: Kids(%v, %d): %v, not %v", shown, a, x[:min(len(x), 80)], kids)
	}
}

func TestWalksByHand(t *testing.T) {
	list := []int{-1, 0, 1, 1, 1, 3, 4, -2}
	checkAnswers(t, list, 5, 6, false, 1)
	checkAnswers(t, list, 1, 6, true, 1, 2, 3, 4)
	checkAnswers(t, list, 6, 1, false, 1)
	checkAnswers(t, list, 3, 4, false, 1, 5)
	checkAnswers(t, list, 3, 5, true, 3, 5)
	checkAnswers(t, list, 5, 5, true, 5)
	checkAnswers(t, list, 0, 0, true, 0, 1)
	checkAnswers(t, list, 0, 6, true, 0, 1)
	checkAnswers(t, list, 6, 0, false, 0)
	// What isn't reached, and what is no place; the other one has its kids.
	checkAnswers(t, list, 7, 1, false, -2)
	checkAnswers(t, list, 1, 7, false, -2, 2, 3, 4)
	checkAnswers(t, list, 7, 7, false, -2)
	checkAnswers(t, list, 8, 1, false, -2)
	checkAnswers(t, list, 1, 8, false, -2, 2, 3, 4)
	// Neither the root nor what isn't reached is a kid of a number that is no place.
	checkAnswers(t, list, -1, -1, false, -2)
	checkAnswers(t, list, -2, -2, false, -2)
	// A tree of one; the root needn't be the first place.
	checkAnswers(t, []int{-1}, 0, 0, true, 0)
	checkAnswers(t, []int{2, 2, -1, 0}, 2, 3, true, 2, 0, 1)
	checkAnswers(t, []int{2, 2, -1, 0}, 1, 3, false, 2)
	checkAnswers(t, []int{-2, -2, -1, -2}, 2, 2, true, 2)
}

func TestWhatIsNoTree(t *testing.T) {
	for _, list := range [][]int{
		nil,
		{},
		{-2}, {-2, -2}, // no root
		{0}, {1, 0}, {1, 2, 0}, {-2, 1},
		{-1, -1}, {-1, 0, -1}, {-2, -1, -1}, // two of them
		{-1, 1}, {1, 0, -1}, {-1, 0, 3, 4, 2}, {3, 3, 4, -1, 2}, // round and round
		{-1, 2, -2}, {-2, 0, -1}, {-1, 0, 3, -2}, // to one that isn't reached
		{-1, 5}, {-1, 2}, {-1, -3}, {-3, -1}, {-1, 0, 1, 4}, // to no place
		{-1, math.MaxInt}, {-1, math.MinInt}, {-1, 1 << 32}, {-1, 1<<32 + 1}, {-1, -1 << 32}, {-1, 256},
	} {
		if isTree(list) {
			t.Fatalf("%v is a tree", list)
		}
		for a := -3; a <= len(list)+1; a++ {
			for b := -3; b <= len(list)+1; b++ {
				checkAnswers(t, list, a, b, false, -2)
			}
		}
	}
}

// everyList calls with each list of n entries, from -3 to one more than n.
func everyList(n int, do func(list []int)) {
	list := make([]int, n)
	var fill func(at int)
	fill = func(at int) {
		if at == n {
			do(list)
			return
		}
		for v := -3; v <= n+1; v++ {
			list[at] = v
			fill(at + 1)
		}
	}
	fill(0)
}

func TestWalksOfEveryList(t *testing.T) {
	for n := range 5 {
		everyList(n, func(list []int) {
			for a := -3; a <= n+1; a++ {
				for b := -3; b <= n+1; b++ {
					checkWalks(t, list, a, b)
				}
			}
			if isTree(list) {
				checkOrder(t, list)
			}
		})
	}
}

// anyTree makes one by chance, in which places stand in any order.
func anyTree(r *rand.Rand, n int) []int {
	list := slices.Repeat([]int{-2}, n)
	places := r.Perm(n)[:1+r.Intn(n)]
	list[places[0]] = -1
	for i := 1; i < len(places); i++ {
		list[places[i]] = places[r.Intn(i)]
	}
	return list
}

func TestWalksByChance(t *testing.T) {
	r := rand.New(rand.NewSource(73))
	for range 3000 {
		n := 1 + r.Intn(64)
		list := anyTree(r, n)
		for range 10 {
			checkWalks(t, list, r.Intn(n), r.Intn(n))
		}
		for _, no := range notPlaces {
			checkAnswers(t, list, no, r.Intn(n), false, -2)
			if x := r.Intn(n); dom.Over(list, x, no) || dom.Meet(list, x, no) != -2 {
				t.Errorf("P7.2: %v: %d and %d", list, x, no)
			}
		}
		// One entry is another one.
		list[r.Intn(n)] = r.Intn(n+4) - 3
		for range 10 {
			checkWalks(t, list, r.Intn(n), r.Intn(n))
		}
	}
}

// A long list is one as any other, and gone through in a time that it allows.
func TestWalksOfLongLists(t *testing.T) {
	const n = 1 << 19
	up, down := make([]int, n), make([]int, n)
	for i := range n {
		up[i], down[i] = i-1, i+1
	}
	down[n-1] = -1
	checkAnswers(t, up, 0, n-1, true, 0, 1)
	checkAnswers(t, up, n-1, 0, false, 0)
	checkAnswers(t, up, n-2, n-2, true, n-2, n-1)
	checkAnswers(t, down, 0, n-1, false, n-1)
	checkAnswers(t, down, n-1, 0, true, n-1, n-2)
	up[0], down[n-1] = n-1, 0
	checkAnswers(t, up, 0, 0, false, -2)
	checkAnswers(t, down, 0, n-1, false, -2)
	up[0], up[n/2], down[n-1] = -1, -1, -2
	checkAnswers(t, up, 0, n-1, false, -2)
	checkAnswers(t, down, 0, n-1, false, -2)
}
