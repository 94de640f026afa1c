package sched

import "lockstep/api"

// line is a block's operations, of which some stand already, one behind the other.
type line struct {
	hangs  [][]int     // of each place those on which it hangs
	stands map[int]int // of each that was put, how many stand ahead of it
}

func newLine(ops []api.Op) *line {
	l := &line{hangs: make([][]int, len(ops)), stands: map[int]int{}}
	// Each is asked again and again, so that all are worked out at once.
	for at := range ops {
		l.hangs[at] = hangs(ops, at)
	}
	return l
}

// put puts the operation at a place behind those that stand.
func (l *line) put(at int) { l.stands[at] = len(l.stands) }

// order gives the places that were put, as they stand.
func (l *line) order() []int {
	order := make([]int, len(l.stands))
	for at, ahead := range l.stands {
		order[ahead] = at
	}
	return order
}

func (l *line) isPut(at int) bool {
	_, is := l.stands[at]
	return is
}

// mayBeNext tells whether there is such a place, that wasn't put yet, and of which
// all stand on which it hangs.
func (l *line) mayBeNext(at int) bool {
	if at < 0 || at >= len(l.hangs) || l.isPut(at) {
		return false
	}
	for _, earlier := range l.hangs[at] {
		if !l.isPut(earlier) {
			return false
		}
	}
	return true
}
