// Package shelf keeps texts by their numbers, and tells what stands in them.
package shelf

import (
	"cmp"
	"slices"
	"strings"
)

// entry is a text and its number.
type entry struct {
	id   int
	text string
}

// Texts is texts with numbers, no two with the same one; the zero value has none. It is never written into, only made anew: so whoever has a copy keeps what it was a copy of.
type Texts struct {
	list []entry // by rising numbers, as answers are told by these
}

// seek is where in the list the text of a number stands or would stand, and whether there is one.
func (t Texts) seek(id int) (int, bool) {
	return slices.BinarySearchFunc(t.list, id, func(e entry, id int) int { return cmp.Compare(e.id, id) })
}

// Has is whether there is a text of a number.
func (t Texts) Has(id int) bool {
	_, found := t.seek(id)
	return found
}

// Count is how many texts there are.
func (t Texts) Count() int {
	return len(t.list)
}

// With is these texts and one more, of a number that none of them has. The text is a copy, so that a short one never holds a long one's memory.
func (t Texts) With(id int, text string) Texts {
	at, _ := t.seek(id)
	one := []entry{{id: id, text: strings.Clone(text)}}
	return Texts{list: slices.Concat(t.list[:at], one, t.list[at:])}
}

// Without is these texts but for the one of a number that one of them has.
func (t Texts) Without(id int) Texts {
	at, _ := t.seek(id)
	return Texts{list: slices.Concat(t.list[:at], t.list[at+1:])}
}
