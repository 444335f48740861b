package parts

import (
	"slices"
	"sort"
	"strings"

	"sedge/api"
)

// end is the end that is i-th in order.
func (t Table) end(i int) string {
	return t.text[t.order[i]:]
}

// ahead is how many ends are ahead of a pattern. They stand in order, so that one look in their midst rules half of them out.
func (t Table) ahead(pattern string) int {
	return sort.Search(len(t.order), func(i int) bool { return t.end(i) >= pattern })
}

// Places is where a part of the text begins that is the pattern, by rising numbers. The ends that begin with the pattern stand together, right behind those that are ahead of it.
func (t Table) Places(pattern string) []int {
	behind := t.order[t.ahead(pattern):]
	count := sort.Search(len(behind), func(i int) bool {
		return !strings.HasPrefix(t.text[behind[i]:], pattern)
	})
	places := slices.Clone(behind[:count])
	slices.Sort(places)
	return places
}

// Reach is how many bytes of a pattern, from the first on, are a part of the text. No end has more in common with it than one of the two between which it would stand.
func (t Table) Reach(pattern string) int {
	rank := t.ahead(pattern)
	reach := 0
	for i := max(rank-1, 0); i < min(rank+1, len(t.order)); i++ {
		reach = max(reach, alike(t.end(i), pattern))
	}
	return reach
}

// Shared is the longest part that two texts have. Only a longer one takes the place of one that was met: so, of several as long, it is the one that begins first in a.
func Shared(a, b string) api.Span {
	table := Of(b)
	var longest api.Span
	for p := range len(a) {
		if reach := table.Reach(a[p:]); reach > longest.Len {
			longest.Len, longest.A = reach, p
		}
	}
	if longest.Len > 0 {
		part := a[longest.A : longest.A+longest.Len]
		longest.B = table.Places(part)[0]
	}
	return longest
}
