package alloc

import "container/heap"

// pool has locations till they are taken.
type pool interface {
	give(location int)
	take() int
}

// lowest is a heap: the lowest location is taken first, since the lowest ones are the machine's registers.
type lowest []int

func (l *lowest) give(location int) { heap.Push(l, location) }

func (l *lowest) take() int { return heap.Pop(l).(int) }

func (l lowest) Len() int { return len(l) }

func (l lowest) Less(a, b int) bool { return l[a] < l[b] }

func (l lowest) Swap(a, b int) { l[a], l[b] = l[b], l[a] }

func (l *lowest) Push(x any) { *l = append(*l, x.(int)) }

func (l *lowest) Pop() any {
	last := len(*l) - 1
	location := (*l)[last]
	*l = (*l)[:last]
	return location
}
