package links

import "math/bits"

// queue has places, and tells one by its number among them; a place is put, taken and found by few steps, however many there are.
type queue struct {
	size int
	// sums has at i how many of the places from i - b up to i - 1 are there, b being i's lowest bit (so Fenwick counts).
	sums []int
}

// newQueue has none of so many places.
func newQueue(places int) *queue { return &queue{sums: make([]int, places+1)} }

// add puts a place by 1, and takes it by -1.
func (q *queue) add(place, n int) {
	q.size += n
	for i := place + 1; i < len(q.sums); i += i & -i {
		q.sums[i] += n
	}
}

// nth is the place that is there with n others ahead of it.
func (q *queue) nth(n int) int {
	place := 0
	for step := 1 << bits.Len(uint(len(q.sums))); step > 0; step /= 2 {
		if i := place + step; i < len(q.sums) && q.sums[i] <= n {
			place, n = i, n-q.sums[i]
		}
	}
	return place
}
