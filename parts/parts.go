// Package parts tells of a text's parts, by its ends in their order: which there are, where they stand, and which another text has too.
package parts

import (
	"slices"
	"strings"

	"sedge/ends"
)

// Table is a text's ends in their order, and how many bytes each has in common with the one ahead of it.
type Table struct {
	text   string
	order  []int
	common []int
}

// Of makes the table of a text.
func Of(text string) Table {
	order := ends.Of(text).Inducing()
	return Table{text: text, order: order, common: common(text, order)}
}

// common goes by places, not by the order: an end without its first byte has at most one byte less in common with the one ahead of it, so that no byte is read anew.
func common(text string, order []int) []int {
	ranks := make([]int, len(order))
	for i, p := range order {
		ranks[p] = i
	}
	list := make([]int, len(order))
	same := 0
	for p, rank := range ranks {
		if rank == 0 {
			same = 0
			continue
		}
		ahead := order[rank-1]
		same += alike(text[p+same:], text[ahead+same:])
		list[rank] = same
		same = max(same-1, 0)
	}
	return list
}

// alike is how many bytes two texts have in common, from the first on.
func alike(a, b string) int {
	n := 0
	for n < len(a) && n < len(b) && a[n] == b[n] {
		n++
	}
	return n
}

// Common tells how many bytes each end, in order, has in common with the one ahead of it. The list is a copy: who writes into it leaves the table whole.
func (t Table) Common() []int {
	return slices.Clone(t.common)
}

// Count is how many different parts the text has.
func (t Table) Count() int {
	count := 0
	for i := range t.order {
		count += t.brings(i)
	}
	return count
}

// brings is how many parts the i-th end begins with that no end ahead of it has: those that are longer than what it has in common with its neighbour.
func (t Table) brings(i int) int {
	return len(t.text) - t.order[i] - t.common[i]
}

// Nth is the n-th of the different parts in their order, and whether there is one. What an end brings stands, by rising lengths, behind all that the ends ahead of it bring.
func (t Table) Nth(n int) (string, bool) {
	if n < 0 {
		return "", false
	}
	for i, from := range t.order {
		more := t.brings(i)
		if n < more {
			return strings.Clone(t.text[from : from+t.common[i]+n+1]), true
		}
		n -= more
	}
	return "", false
}
