package sedge_test

import (
	"cmp"
	"maps"
	"slices"
	"strings"
	"testing"

	"sedge/api"
	"sedge/sedge"
)

// texts is what should stand on a shelf, by the texts' numbers.
type texts map[int]string

func (x texts) ids() []int {
	return slices.Sorted(maps.Keys(x))
}

// hits is where a pattern stands, by looking at each place of each text.
func (x texts) hits(pattern string) []api.Hit {
	var list []api.Hit
	for _, id := range x.ids() {
		for _, at := range comparedPlaces(x[id], pattern) {
			list = append(list, api.Hit{Id: id, At: at})
		}
	}
	return list
}

// top is the numbers of the texts in which a pattern stands, by pairs: oftener first, then by number.
func (x texts) top(pattern string, n int) []int {
	count := map[int]int{}
	for _, h := range x.hits(pattern) {
		count[h.Id]++
	}
	list := slices.SortedFunc(maps.Keys(count), func(a, b int) int {
		return cmp.Or(count[b]-count[a], a-b)
	})
	return list[:max(0, min(n, len(list)))]
}

// widths is, of each number of texts, the longest part that so many or more have: all parts of all texts are written out and counted.
func (x texts) widths() []string {
	count := map[string]int{}
	for _, text := range x {
		for _, part := range sortedParts(text) {
			count[part]++
		}
	}
	widest := make([]string, len(x)+1)
	for _, part := range slices.Sorted(maps.Keys(count)) {
		for n := 1; n <= count[part]; n++ {
			if len(part) > len(widest[n]) {
				widest[n] = part
			}
		}
	}
	return widest
}

// patterns is some that stand in the texts, some that do not, and those that two texts behind one another would make.
func (x texts) patterns() []string {
	list := []string{"a", "b", "aa", "ab", "ana", "\x00", "\xff", "\x00\xff", "no such", over("a", 201), over("ab", 1000)}
	before := ""
	for _, id := range x.ids() {
		a := x[id]
		list = append(list, a, a+"!", a[len(a)/2:], a[:len(a)/2], a[len(a)/3:len(a)*2/3])
		list = append(list, before+a, a+before, before[len(before)/2:]+a[:len(a)/2])
		before = a
	}
	list = slices.DeleteFunc(list, func(p string) bool { return p == "" })
	slices.Sort(list)
	return slices.Compact(list)
}

// shelfOf puts texts on a new shelf, in another order than that of their numbers: these fall, but for the first two.
func shelfOf(t *testing.T, x texts) *sedge.Shelf {
	t.Helper()
	s := sedge.NewShelf()
	ids := x.ids()
	slices.Reverse(ids)
	if len(ids) > 2 {
		ids[0], ids[1] = ids[1], ids[0]
	}
	for _, id := range ids {
		put(t, s, id, x[id], api.OK)
	}
	return s
}

func put(t *testing.T, s *sedge.Shelf, id int, text string, want api.Errno) {
	t.Helper()
	if e := s.Put(id, text); e != want {
		t.Fatalf("P8: Put(%d, %.60q (%d bytes)) = %d, want %d", id, text, len(text), e, want)
	}
}

func drop(t *testing.T, s *sedge.Shelf, id int, want api.Errno) {
	t.Helper()
	if e := s.Drop(id); e != want {
		t.Fatalf("P8: Drop(%d) = %d, want %d", id, e, want)
	}
}

func checkHits(t *testing.T, s *sedge.Shelf, pattern string, want ...api.Hit) {
	t.Helper()
	if l, e := s.Find(pattern); !slices.Equal(l, want) || e != api.OK {
		t.Fatalf("P9: Find(%.60q (%d bytes)) = %v, %d, want %v", pattern, len(pattern), l, e, want)
	}
}

func checkTop(t *testing.T, s *sedge.Shelf, pattern string, n int, want ...int) {
	t.Helper()
	if l, e := s.Top(pattern, n); !slices.Equal(l, want) || e != api.OK {
		t.Fatalf("P9: Top(%.60q (%d bytes), %d) = %v, %d, want %v", pattern, len(pattern), n, l, e, want)
	}
}

func checkWide(t *testing.T, s *sedge.Shelf, n int, want string) {
	t.Helper()
	if part, e := s.Wide(n); part != want || e != api.OK {
		t.Fatalf("P9: Wide(%d) = %.60q (%d bytes), %d, want %.60q (%d bytes)", n, part, len(part), e, want, len(want))
	}
}

func checkNotWide(t *testing.T, s *sedge.Shelf, n int) {
	t.Helper()
	if part, e := s.Wide(n); part != "" || e != api.ErrNone {
		t.Fatalf("P9: Wide(%d) = %.60q, %d, want nothing, ErrNone", n, part, e)
	}
}

// checkIds asks for each number whether there is a text of it: a text that is too long is refused otherwise where there is one.
func checkIds(t *testing.T, s *sedge.Shelf, x texts) {
	t.Helper()
	long := strings.Repeat("a", 201)
	for id := range 1000 {
		want := api.ErrLong
		if _, is := x[id]; is {
			want = api.ErrTwice
		}
		put(t, s, id, long, want)
	}
}

// checkWidths asks Wide at all numbers.
func checkWidths(t *testing.T, s *sedge.Shelf, x texts) {
	t.Helper()
	widths := x.widths()
	for n := 1; n <= len(x); n++ {
		checkWide(t, s, n, widths[n])
	}
	for _, n := range []int{leastInt, -len(x), -1, 0, len(x) + 1, len(x) + 2, 1 << 32, greatestInt} {
		if n < 1 || n > len(x) {
			checkNotWide(t, s, n)
		}
	}
}

// checkShelf holds all that a shelf answers against the texts that should stand there.
func checkShelf(t *testing.T, s *sedge.Shelf, x texts) {
	t.Helper()
	checkIds(t, s, x)
	checkWidths(t, s, x)
	for _, pattern := range x.patterns() {
		checkHits(t, s, pattern, x.hits(pattern)...)
		for _, n := range []int{-1, 0, 1, 2, len(x), len(x) + 1} {
			checkTop(t, s, pattern, n, x.top(pattern, n)...)
		}
	}
}

// twenty is as many texts as a shelf may have, of a few bytes each.
func twenty() texts {
	x := texts{}
	for i := range 20 {
		x[(i*370+11)%1000] = drawn(int64(i), 3+i%5, 2+i%2)
	}
	return x
}

// shelves is texts of many kinds for a shelf.
func shelves() []texts {
	return []texts{
		{}, {0: ""}, {999: "a"}, {0: "", 999: ""}, {1: "", 2: "a", 3: ""},
		{7: "banana", 3: "bandana"}, {7: "banana", 3: "bandana", 5: ""}, {0: "zzab", 1: "cdzz", 2: "abcd"},
		{4: "banana", 9: "banana", 6: "banana"}, {1: "ab", 0: "ba", 2: "abab", 998: "baba", 999: "b"},
		{10: "\x00", 2: "\xff", 1: "\x00\xff", 20: "\xff\x00", 100: "\x00\x00\xff\xff"},
		{3: "abc", 2: "def", 1: "ghi"}, {5: over("a", 30), 50: over("a", 29) + "b", 500: "b" + over("a", 31)},
		{12: over("ab", 40), 21: over("ba", 40), 1: over("aab", 40)}, {8: "mississippi", 9: "missouri", 10: "mississauga", 11: "sip"},
		{1: "the cat sat on the mat", 2: "on the mat sat the cat", 0: "cat"}, twenty(),
	}
}
