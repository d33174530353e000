package route

import (
	"cmp"
	"slices"
)

// visit is a node that a search can reach over a path of length distance.
type visit struct{ node, distance int }

// queue is what a search needs of a priority queue.
type queue interface {
	put(v visit)
	takeNearest() visit
	empty() bool
}

// sortedQueue keeps the nearest visit at the end, where it can be taken without moving the others.
type sortedQueue struct{ visits []visit }

func (q *sortedQueue) put(v visit) {
	farthestFirst := func(a, b visit) int { return cmp.Compare(b.distance, a.distance) }
	at, _ := slices.BinarySearchFunc(q.visits, v, farthestFirst)
	q.visits = slices.Insert(q.visits, at, v)
}

func (q *sortedQueue) takeNearest() visit {
	last := len(q.visits) - 1
	v := q.visits[last]
	q.visits = q.visits[:last]
	return v
}

func (q *sortedQueue) empty() bool { return len(q.visits) == 0 }
