// Package bucket sorts places by small numbers: it deals them into buckets, which are pieces of one row.
package bucket

// Cut parts a row into empty buckets with room for sizes[0], sizes[1] and so on. The third index ends each one's room where the next one begins, so that what is appended to one never runs over.
func Cut(row, sizes []int) [][]int {
	buckets := make([][]int, len(sizes))
	from := 0
	for b, size := range sizes {
		buckets[b] = row[from : from : from+size]
		from += size
	}
	return buckets
}

// Sizes counts how many of the places belong into each of so many buckets.
func Sizes(places []int, buckets int, bucket func(p int) int) []int {
	counts := make([]int, buckets)
	for _, p := range places {
		counts[bucket(p)]++
	}
	return counts
}

// Deal sorts places by the buckets that they belong into. Places of one bucket stay in the order that they had: so several deals, the least weighty first, sort by several numbers.
func Deal(places []int, buckets int, bucket func(p int) int) []int {
	row := make([]int, len(places))
	dealt := Cut(row, Sizes(places, buckets, bucket))
	for _, p := range places {
		b := bucket(p)
		dealt[b] = append(dealt[b], p)
	}
	return row
}

// UpTo is the places from 0 up to less than n.
func UpTo(n int) []int {
	list := make([]int, n)
	for i := range list {
		list[i] = i
	}
	return list
}
