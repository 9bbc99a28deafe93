package ucd

import (
	"math"
	"slices"

	"dovetail/api"
)

const settled = math.MaxInt // a count that is never the least

// walk goes from points to their parts, and finds those that lead to one another, each way round, in one walk over all marks (after Tarjan).
type walk struct {
	marks map[int]mark
	met   map[int]int // the how manieth point that was met, from 1 on; settled, once it is known what leads to it
	count int
	open  []int       // met, and not settled
	order []int       // settled, each behind all that it leads to, but for loops
	loops map[int]int // 1 of each that leads to itself
}

// needNoLoop gives up at the first line whose point leads to itself; else it is the order in which no point stands ahead of its parts.
func needNoLoop(marks map[int]mark, places []place) []int {
	w := walk{marks: marks, met: map[int]int{}, loops: map[int]int{}}
	for _, p := range places {
		w.reach(p.point)
	}
	for _, p := range places {
		if w.loops[p.point] > 0 {
			panic(lost{api.ErrUcdLoop, p.line})
		}
	}
	return w.order
}

// reach visits a point, if that is still to be done: the least count, of points still open, that it leads to.
func (w *walk) reach(point int) int {
	if at := w.met[point]; at > 0 {
		return at
	}
	return w.visit(point)
}

func (w *walk) visit(point int) int {
	w.count++
	at, from := w.count, len(w.open)
	w.met[point] = at
	w.open = append(w.open, point)
	least := at
	for _, part := range w.marks[point].parts {
		least = min(least, w.reach(part))
	}
	if least == at {
		w.settle(from)
	}
	return least
}

// settle closes the open point of that index and all that were opened behind it: they lead to it, as it does to them.
func (w *walk) settle(from int) {
	group := w.open[from:]
	loop := len(group) > 1 || slices.Contains(w.marks[group[0]].parts, group[0])
	for _, p := range group {
		w.met[p] = settled
		if loop {
			w.loops[p] = 1
		}
	}
	w.order = append(w.order, group...)
	w.open = w.open[:from]
}
