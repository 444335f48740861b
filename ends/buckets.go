package ends

// cut parts a row into empty buckets with room for sizes[0], sizes[1] and so on. The third index ends each one's room where the next one begins, so that what is appended to one never runs over.
func cut(row, sizes []int) [][]int {
	buckets := make([][]int, len(sizes))
	from := 0
	for b, size := range sizes {
		buckets[b] = row[from : from : from+size]
		from += size
	}
	return buckets
}

// sizes counts how many of the places belong into each of so many buckets.
func sizes(places []int, buckets int, bucket func(p int) int) []int {
	counts := make([]int, buckets)
	for _, p := range places {
		counts[bucket(p)]++
	}
	return counts
}

// deal sorts places by the buckets that they belong into. Places of one bucket stay in the order that they had: so several deals, the least weighty first, sort by several numbers.
func deal(places []int, buckets int, bucket func(p int) int) []int {
	row := make([]int, len(places))
	dealt := cut(row, sizes(places, buckets, bucket))
	for _, p := range places {
		b := bucket(p)
		dealt[b] = append(dealt[b], p)
	}
	return row
}
