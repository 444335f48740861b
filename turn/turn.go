// Package turn turns a text, by its ends in their order, and turns it back.
package turn

import (
	"sedge/bucket"
	"sedge/ends"
)

// kinds is how many bytes there are, and the mark, which is less than all of them.
const kinds = 1 + 256

// Text gives, of each end with its mark, in order, the byte ahead of it, and the number of the row that has none: the whole text's.
func Text(text string) (last string, row int) {
	turned := make([]byte, 0, len(text))
	for i, p := range marked(text) {
		if p == 0 {
			row = i
			continue
		}
		turned = append(turned, text[p-1])
	}
	return string(turned), row
}

// marked is the places of the ends with a mark behind the text. It leaves the order of the others as it is: of two ends, one of which begins with the other, the shorter one is ahead with the mark as without it.
func marked(text string) []int {
	return append([]int{len(text)}, ends.Of(text).Inducing()...)
}

// Back gives the text that was turned, and whether there is one. It goes from the whole text's row, end by end, to the mark's. As no two rows go on to the same row, it can't miss the mark's; but if rows are left over by then, they are of no text.
func Back(last string, row int) (text string, found bool) {
	if row < 0 || row > len(last) {
		return "", false
	}
	next := following(last, row)
	back := make([]byte, 0, len(last))
	for at := row; at != 0; {
		at = next[at]
		back = append(back, byte(ahead(last, row, at)-1))
	}
	if len(back) < len(last) {
		return "", false
	}
	return string(back), true
}

// following tells of each row in which one its end goes on without the first byte. Ends with the same first byte are ordered by what they go on with: so the rows, dealt by the bytes ahead of them, come in the order of the ends that begin with these bytes.
func following(last string, row int) []int {
	return bucket.Deal(bucket.UpTo(len(last)+1), kinds, func(i int) int {
		return ahead(last, row, i)
	})
}

// ahead is what stands ahead of the i-th end: one more than the byte; of the whole text's row it is 0, for the mark, as if the text began anew behind it.
func ahead(last string, row, i int) int {
	switch {
	case i < row:
		return int(last[i]) + 1
	case i > row:
		return int(last[i-1]) + 1
	}
	return 0
}
