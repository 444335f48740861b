package shelf

import (
	"cmp"
	"slices"
	"strings"

	"sedge/api"
	"sedge/parts"
)

// Find is all places at which a pattern stands, by the texts' numbers, those of one text by rising places. Each text is asked by itself, so that nothing stands across two of them.
func (t Texts) Find(pattern string) []api.Hit {
	var hits []api.Hit
	for _, e := range t.list {
		for _, at := range parts.Of(e.text).Places(pattern) {
			hits = append(hits, api.Hit{Id: e.id, At: at})
		}
	}
	return hits
}

// score is how often a pattern stands in the text of a number.
type score struct {
	id, count int
}

// scores is the score of each text in which a pattern stands, by the texts' numbers.
func (t Texts) scores(pattern string) []score {
	var list []score
	for _, e := range t.list {
		if count := len(parts.Of(e.text).Places(pattern)); count > 0 {
			list = append(list, score{id: e.id, count: count})
		}
	}
	return list
}

// Top is the numbers of up to n texts in which a pattern stands, the highest score first. Like scores stay by rising numbers, as a stable sort leaves them as they came.
func (t Texts) Top(pattern string, n int) []int {
	list := t.scores(pattern)
	slices.SortStableFunc(list, func(a, b score) int { return cmp.Compare(b.count, a.count) })
	var ids []int
	for _, s := range list[:min(max(n, 0), len(list))] {
		ids = append(ids, s.id)
	}
	return ids
}

// Wide is the longest part that n texts or more have, n from 1 to their number; of several the first one in order. It begins at some place of some text, and there it is the longest that n texts have: so one look at each place finds it.
func (t Texts) Wide(n int) string {
	tables := t.tables()
	widest := ""
	for _, e := range t.list {
		for p := range len(e.text) {
			end := e.text[p:]
			if part := end[:reach(tables, end, n)]; isWider(part, widest) {
				widest = part
			}
		}
	}
	return strings.Clone(widest)
}

// tables is the table of each text.
func (t Texts) tables() []parts.Table {
	list := make([]parts.Table, len(t.list))
	for i, e := range t.list {
		list[i] = parts.Of(e.text)
	}
	return list
}

// reach is how many bytes of an end, from the first on, are a part of n texts or more. Whoever has more of it has this much too: so it is the n-th of what the texts have of it, from the greatest down.
func reach(tables []parts.Table, end string, n int) int {
	reaches := make([]int, len(tables))
	for i, table := range tables {
		reaches[i] = table.Reach(end)
	}
	slices.Sort(reaches)
	return reaches[len(reaches)-n]
}

// isWider is whether one part is told rather than another: it is longer, or as long and ahead of it in order.
func isWider(part, other string) bool {
	return len(part) > len(other) || len(part) == len(other) && part < other
}
