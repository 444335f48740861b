package parts

// Earlier is the longest part that begins at a place of the text and at one ahead of it as well: the first place at which it begins, and how many bytes it has; 0 and 0, if there is none.
func (t Table) Earlier(place int) (from, size int) {
	rank := t.ahead(t.text[place:])
	size = max(t.sameAhead(rank), t.sameBehind(rank))
	if size == 0 {
		return 0, 0
	}
	return t.Places(t.text[place : place+size])[0], size
}

// sameAhead is the most bytes that an end has in common with one that is ahead of it in order and begins earlier in the text. That is the nearest such end: further away, ends have no more in common.
func (t Table) sameAhead(rank int) int {
	same := len(t.text)
	for i := rank; i > 0; i-- {
		same = min(same, t.common[i])
		if t.order[i-1] < t.order[rank] {
			return same
		}
	}
	return 0
}

// sameBehind is the same of the ends that are behind it in order.
func (t Table) sameBehind(rank int) int {
	same := len(t.text)
	for i := rank + 1; i < len(t.order); i++ {
		same = min(same, t.common[i])
		if t.order[i] < t.order[rank] {
			return same
		}
	}
	return 0
}
