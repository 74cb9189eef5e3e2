package registers

import (
	"container/heap"
	"sort"
)

// queue is a heap of what is to be visited: the least ones first, each of them once.
type queue struct {
	sort.IntSlice
	waits []bool
}

func (q *queue) Push(x any) { q.IntSlice = append(q.IntSlice, x.(int)) }

func (q *queue) Pop() any {
	last := len(q.IntSlice) - 1
	x := q.IntSlice[last]
	q.IntSlice = q.IntSlice[:last]
	return x
}

// settle visits all that are marked, and again those that a visit names, until none is left.
func settle(marked []bool, visit func(i int, again func(int))) {
	q := &queue{waits: make([]bool, len(marked))}
	again := func(i int) {
		if !q.waits[i] {
			q.waits[i] = true
			heap.Push(q, i)
		}
	}
	for i, isMarked := range marked {
		if isMarked {
			again(i)
		}
	}
	for q.Len() > 0 {
		i := heap.Pop(q).(int)
		q.waits[i] = false
		visit(i, again)
	}
}
