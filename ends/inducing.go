package ends

import (
	"slices"

	"sedge/bucket"
)

// The slope at a place: an end that is behind the one at the next place falls, one that is ahead of it rises. Of two ends with the same first number the one that falls is the lesser: so a bucket of falling ones stands ahead of that of rising ones.
const (
	falling = iota
	rising
	slopes
)

// sloped is a row with the slope of each place.
type sloped struct {
	row   Row
	slope []int
}

// Inducing sorts the places at which ends begin to fall, and from these all others. It is quick because at most every second place is such a one, and going through the row twice, down and up, finds the rest.
func (r Row) Inducing() []int {
	if len(r.nums) == 0 {
		return nil
	}
	s := r.sloped()
	starts := s.starts()
	sorted := s.onlyStarts(s.induced(starts))
	names := named(sorted, len(r.nums), s.samePiece)
	if names.kinds < len(starts) {
		shorter := Row{nums: pick(names.nums, starts), kinds: names.kinds}
		sorted = pick(starts, shorter.Inducing())
	}
	return s.induced(sorted)
}

// sloped tells the slopes from the last place on, since those with the same number as the next place have its slope. The last one falls: behind it is the mark.
func (r Row) sloped() sloped {
	s := sloped{row: r, slope: make([]int, len(r.nums))}
	for p := len(r.nums) - 2; p >= 0; p-- {
		switch here, next := r.nums[p], r.nums[p+1]; {
		case here < next:
			s.slope[p] = rising
		case here == next:
			s.slope[p] = s.slope[p+1]
		}
	}
	return s
}

// isStart is whether ends begin to fall at p.
func (s sloped) isStart(p int) bool {
	return p > 0 && s.slope[p] == falling && s.slope[p-1] == rising
}

// starts is the places at which ends begin to fall, by rising numbers.
func (s sloped) starts() []int {
	return s.onlyStarts(bucket.UpTo(len(s.slope)))
}

// onlyStarts is those of some places at which ends begin to fall.
func (s sloped) onlyStarts(places []int) []int {
	var starts []int
	for _, p := range places {
		if s.isStart(p) {
			starts = append(starts, p)
		}
	}
	return starts
}

// step is the number at p and its slope; of the mark it is unlike all others.
func (s sloped) step(p int) [2]int {
	if p >= len(s.slope) {
		return [2]int{s.row.at(p), rising}
	}
	return [2]int{s.row.at(p), s.slope[p]}
}

// samePiece is whether what stands from one start up to the next, with this one, is the same at two starts. The last piece ends with the mark: no other one is the same.
func (s sloped) samePiece(a, b int) bool {
	for n := 0; s.step(a+n) == s.step(b+n); n++ {
		if n > 0 && s.isStart(a+n) {
			return true
		}
	}
	return false
}

// bucket is the number of the bucket that p belongs into.
func (s sloped) bucket(p int) int {
	return s.row.nums[p]*slopes + s.slope[p]
}

// induced sorts all places by what is known of the starts: by whole ends, if the starts are sorted by these, else by the pieces that begin at the places.
func (s sloped) induced(starts []int) []int {
	row := make([]int, len(s.slope))
	count := s.row.kinds * slopes
	buckets := bucket.Cut(row, bucket.Sizes(bucket.UpTo(len(row)), count, s.bucket))
	s.induceRising(buckets, starts)
	s.induceFalling(buckets)
	return row
}

// induceRising fills the buckets of rising ends, going down: such an end is less than the one at the next place, so this one is met ahead of it. On the way down each bucket has its greatest end first; then they are turned.
func (s sloped) induceRising(buckets [][]int, starts []int) {
	for _, p := range slices.Backward(starts) {
		s.put(buckets, p)
	}
	for b := len(buckets) - 1; b >= 0; b-- {
		s.induceAhead(buckets, b, rising)
	}
	for b := rising; b < len(buckets); b += slopes {
		slices.Reverse(buckets[b])
	}
}

// induceFalling fills the buckets of falling ends anew, going up: such an end is greater than the one at the next place. The least of all is the mark, and the last place is the one ahead of it.
func (s sloped) induceFalling(buckets [][]int) {
	for b := falling; b < len(buckets); b += slopes {
		buckets[b] = buckets[b][:0]
	}
	s.put(buckets, len(s.slope)-1)
	for b := range buckets {
		s.induceAhead(buckets, b, falling)
	}
}

// induceAhead goes through a bucket, which may grow meanwhile, and puts the places just ahead of those in it into theirs, if they have this slope.
func (s sloped) induceAhead(buckets [][]int, b, slope int) {
	for i := 0; i < len(buckets[b]); i++ {
		if p := buckets[b][i] - 1; p >= 0 && s.slope[p] == slope {
			s.put(buckets, p)
		}
	}
}

// put appends a place to its bucket.
func (s sloped) put(buckets [][]int, p int) {
	b := s.bucket(p)
	buckets[b] = append(buckets[b], p)
}
