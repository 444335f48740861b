// Package ends puts the ends of a row of numbers in their order, in three ways.
package ends

// Row is numbers in a row, each from 0 up to less than kinds. Bytes are such numbers, and so are the names that a way gives to pieces of a row: it can sort these as it sorts bytes.
type Row struct {
	nums  []int
	kinds int
}

// Of makes a row of a text's bytes.
func Of(text string) Row {
	nums := make([]int, len(text))
	for p := range nums {
		nums[p] = int(text[p])
	}
	return Row{nums: nums, kinds: 256}
}

// at is one more than the number at p, so that 0, less than all, is left for the mark behind the last one.
func (r Row) at(p int) int {
	if p >= len(r.nums) {
		return 0
	}
	return r.nums[p] + 1
}

// named gives names from 0 on to places that are sorted by some rule, the same name to neighbours that this rule can't tell apart: names are then ordered as the rule orders places. Of size places those that are not in the list keep the name 0.
func named(sorted []int, size int, same func(a, b int) bool) Row {
	names := Row{nums: make([]int, size)}
	for i, p := range sorted {
		if i == 0 || !same(sorted[i-1], p) {
			names.kinds++
		}
		names.nums[p] = names.kinds - 1
	}
	return names
}

// pick is what stands in list at some places.
func pick(list, places []int) []int {
	picked := make([]int, len(places))
	for i, p := range places {
		picked[i] = list[p]
	}
	return picked
}
