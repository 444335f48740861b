package ends

import (
	"slices"

	"sedge/bucket"
)

// Thirds sorts the ends at two of each three places, then the others by these, and merges both. It is quick because the first are put in order as a row that is a third shorter, by names for three numbers at a time.
func (r Row) Thirds() []int {
	chosen := r.sortedChosen()
	ranks := named(chosen, len(r.nums), func(a, b int) bool { return false })
	return r.merged(chosen, r.sortedOthers(chosen), ranks)
}

// class is the length of the end at p, counted by thirds. The ends of class 1 and of class 2 are the chosen ones: the shortest of each reaches over the mark when it is read by three numbers, so that its name is like no other.
func (r Row) class(p int) int {
	return (len(r.nums) - p) % 3
}

// ofClass is the places of a class, by rising numbers.
func (r Row) ofClass(class int) []int {
	var places []int
	for p := range r.nums {
		if r.class(p) == class {
			places = append(places, p)
		}
	}
	return places
}

// three is the first three numbers of the end at p.
func (r Row) three(p int) [3]int {
	return [3]int{r.at(p), r.at(p + 1), r.at(p + 2)}
}

// sortedChosen sorts the chosen places by three numbers; where this leaves some alike, by the names of these threes, one class behind the other.
func (r Row) sortedChosen() []int {
	chosen := append(r.ofClass(1), r.ofClass(2)...)
	sorted := chosen
	for i := 2; i >= 0; i-- {
		sorted = bucket.Deal(sorted, r.kinds+1, func(p int) int { return r.three(p)[i] })
	}
	names := named(sorted, len(r.nums), func(a, b int) bool { return r.three(a) == r.three(b) })
	if names.kinds == len(chosen) {
		return sorted
	}
	shorter := Row{nums: pick(names.nums, chosen), kinds: names.kinds}
	return pick(chosen, shorter.Thirds())
}

// sortedOthers sorts the places that were not chosen: behind each one stands one of class 2, so that one number ahead of these, in their order, decides.
func (r Row) sortedOthers(chosen []int) []int {
	var others []int
	for _, p := range chosen {
		if p > 0 && r.class(p) == 2 {
			others = append(others, p-1)
		}
	}
	return bucket.Deal(others, r.kinds, func(p int) int { return r.nums[p] })
}

// merged is the chosen places and the others, both sorted, as one list.
func (r Row) merged(chosen, others []int, ranks Row) []int {
	order := make([]int, 0, len(r.nums))
	for _, p := range chosen {
		for len(others) > 0 && r.isAhead(others[0], p, ranks) {
			order = append(order, others[0])
			others = others[1:]
		}
		order = append(order, p)
	}
	return append(order, others...)
}

// isAhead is whether the end at other, not a chosen one, is ahead of the one at p, a chosen one. One number behind class 2, and two behind class 1, both ends go on with chosen ones, and the ranks of these decide.
func (r Row) isAhead(other, p int, ranks Row) bool {
	width := 3 - r.class(p)
	a, b := r.readUpTo(other, width, ranks), r.readUpTo(p, width, ranks)
	return slices.Compare(a[:], b[:]) < 0
}

// readUpTo is the first one or two numbers of the end at p, and the rank of the end behind these.
func (r Row) readUpTo(p, width int, ranks Row) [3]int {
	if width == 1 {
		return [3]int{r.at(p), ranks.at(p + 1), 0}
	}
	return [3]int{r.at(p), r.at(p + 1), ranks.at(p + 2)}
}
