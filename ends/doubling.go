package ends

import "sedge/bucket"

// Doubling sorts the ends by their first number, then by two, by four, and so on. It is quick because the ranks by so many numbers, of both halves, tell the order by twice as many: no end is ever read through.
func (r Row) Doubling() []int {
	n := len(r.nums)
	order := bucket.Deal(bucket.UpTo(n), r.kinds, func(p int) int { return r.nums[p] })
	ranks := named(order, n, func(a, b int) bool { return r.nums[a] == r.nums[b] })
	for width := 1; ranks.kinds < n; width *= 2 {
		order = ranks.sortedByHalves(order, width)
		ranks = ranks.doubled(order, width)
	}
	return order
}

// halves is the ranks, by width numbers, of the end at p and of what is left of it behind these.
func (r Row) halves(p, width int) [2]int {
	return [2]int{r.at(p), r.at(p + width)}
}

// sortedByHalves sorts places by twice as many numbers as the ranks stand for.
func (r Row) sortedByHalves(places []int, width int) []int {
	behind := bucket.Deal(places, r.kinds+1, func(p int) int { return r.halves(p, width)[1] })
	return bucket.Deal(behind, r.kinds+1, func(p int) int { return r.halves(p, width)[0] })
}

// doubled is the ranks by twice as many numbers.
func (r Row) doubled(order []int, width int) Row {
	return named(order, len(r.nums), func(a, b int) bool {
		return r.halves(a, width) == r.halves(b, width)
	})
}
