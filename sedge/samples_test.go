package sedge_test

import (
	"math/rand"
	"slices"
	"strings"

	"sedge/api"
)

const (
	leastInt    = -1 << 63
	greatestInt = 1<<63 - 1
)

// over is the first n bytes of a piece that comes over and over.
func over(piece string, n int) string {
	return strings.Repeat(piece, n/len(piece)+1)[:n]
}

// grown is the first n bytes of what comes of "a" when every letter is replaced by its rule again and again.
func grown(n int, rules *strings.Replacer) string {
	s := "a"
	for len(s) < n {
		s = rules.Replace(s)
	}
	return s[:n]
}

// drawn is n bytes out of so many kinds, the same ones for the same seed.
func drawn(seed int64, n, kinds int) string {
	r := rand.New(rand.NewSource(seed))
	b := make([]byte, n)
	for i := range b {
		b[i] = byte(r.Intn(kinds) * 255 / max(kinds-1, 1))
	}
	return string(b)
}

// allBytes is every byte once, by rising numbers.
func allBytes() string {
	b := make([]byte, 256)
	for i := range b {
		b[i] = byte(i)
	}
	return string(b)
}

// falling is every byte once, by falling numbers.
func falling() string {
	b := []byte(allBytes())
	slices.Reverse(b)
	return string(b)
}

// shortTexts are short enough to write out all their parts.
func shortTexts() []string {
	return []string{
		"", "a", "\x00", "\xff", "aa", "ab", "ba", "\x00\x00", "\xff\x00", "\x00\xff", "\xff\xff",
		"banana", "mississippi", "abracadabra", "abcabcabcabc", "cabcabcabcab", "zyxwv", "vwxyz",
		"\x00\x00\xff\x00\x00\xff\x00", "\xff\xff\x00\xff\xff\x00\xff", "a\x00a\x00a", "\x80\x7f\x80\x7f",
		over("a", 40), over("a", 40) + "b", "b" + over("a", 40), over("ab", 41), over("aab", 41),
		over("abaab", 43), drawn(1, 45, 2), drawn(2, 45, 3), drawn(3, 45, 256), "the cat sat on the mat",
	}
}

// longTexts have MaxText bytes or nearly so, many of them with much that comes again.
func longTexts() []string {
	fibonacci := strings.NewReplacer("a", "ab", "b", "a")
	thue := strings.NewReplacer("a", "ab", "b", "ba")
	three := strings.NewReplacer("a", "abc", "b", "ac", "c", "b")
	half := drawn(4, 500, 4)
	return []string{
		over("a", 1000), over("\x00", 1000), over("\xff", 1000), over("a", 999) + "b", over("b", 999) + "a",
		"a" + over("b", 999), "b" + over("a", 999), over("a", 500) + "b" + over("a", 499),
		over("ab", 1000), over("ba", 1000), over("ab", 999), over("aab", 1000), over("\x00\xff", 1000),
		over("abcdefg", 998), over("the cat sat on the mat ", 1000),
		grown(1000, fibonacci), grown(1000, thue), grown(999, three),
		over(allBytes(), 1000), over(falling(), 1000), half + half, half + "\x00" + half[:499],
		drawn(5, 1000, 2), drawn(6, 1000, 3), drawn(7, 999, 26), drawn(8, 998, 256), drawn(9, 1000, 256),
	}
}

// eachText hands on every text of so many letters with up to most bytes.
func eachText(letters string, most int, visit func(text string)) {
	var grow func(text string)
	grow = func(text string) {
		visit(text)
		for i := 0; i < len(letters) && len(text) < most; i++ {
			grow(text + letters[i:i+1])
		}
	}
	grow("")
}

// sortedEnds is the places of the ends as the library orders them.
func sortedEnds(text string) []int {
	order := make([]int, len(text))
	for p := range order {
		order[p] = p
	}
	slices.SortFunc(order, func(a, b int) int { return strings.Compare(text[a:], text[b:]) })
	return order
}

// comparedEnds is what neighbours of the ends in order have in common, byte by byte.
func comparedEnds(text string) []int {
	order := sortedEnds(text)
	list := make([]int, len(order))
	for i := 1; i < len(order); i++ {
		a, b := text[order[i-1]:], text[order[i]:]
		for list[i] < min(len(a), len(b)) && a[list[i]] == b[list[i]] {
			list[i]++
		}
	}
	return list
}

// sortedParts is the different parts of a text, written out and in order.
func sortedParts(text string) []string {
	var list []string
	for from := range len(text) {
		for to := from + 1; to <= len(text); to++ {
			list = append(list, text[from:to])
		}
	}
	slices.Sort(list)
	return slices.Compact(list)
}

// comparedPlaces is where a pattern stands, by looking at each place.
func comparedPlaces(text, pattern string) []int {
	var list []int
	for p := range len(text) {
		if strings.HasPrefix(text[p:], pattern) {
			list = append(list, p)
		}
	}
	return list
}

// comparedSpan is the longest part that two texts have, by going through all pairs of places; the first of them that is longer than those before it stands first in a, and first in b for this place of a.
func comparedSpan(a, b string) api.Span {
	var longest api.Span
	for i := range len(a) {
		for k := range len(b) {
			n := 0
			for i+n < len(a) && k+n < len(b) && a[i+n] == b[k+n] {
				n++
			}
			if n > longest.Len {
				longest = api.Span{Len: n, A: i, B: k}
			}
		}
	}
	return longest
}

// turned is what Turn makes of a text.
type turned struct {
	last string
	row  int
}

// comparedTurn turns a text by the library's order of its ends. The mark alone is the end of no bytes.
func comparedTurn(text string) turned {
	var t turned
	for i, p := range append([]int{len(text)}, sortedEnds(text)...) {
		if p == 0 {
			t.row = i
		} else {
			t.last += text[p-1 : p]
		}
	}
	return t
}

// comparedBack is the only text that can have become t, and whether it did. The bytes ahead of the sorted beginnings of all rows, sorted anew, are the beginnings with one byte more; the mark is the number 0.
func comparedBack(t turned) (string, bool) {
	if t.row < 0 || t.row > len(t.last) {
		return "", false
	}
	ahead := make([]int, 0, len(t.last)+1)
	for i := range len(t.last) {
		ahead = append(ahead, int(t.last[i])+1)
	}
	ahead = slices.Insert(ahead, t.row, 0)
	rows := make([][]int, len(ahead))
	for range ahead {
		for i, b := range ahead {
			rows[i] = append([]int{b}, rows[i]...)
		}
		slices.SortFunc(rows, slices.Compare)
	}
	var text []byte
	for _, b := range rows[t.row] {
		if b > 0 {
			text = append(text, byte(b-1))
		}
	}
	return string(text), comparedTurn(string(text)) == t
}

// single is the factors of bytes that stand for themselves.
func single(bytes string) []api.Factor {
	var list []api.Factor
	for i := range len(bytes) {
		list = append(list, api.Factor{Byte: bytes[i]})
	}
	return list
}

// taken is a piece from a place on.
func taken(from, size int) api.Factor {
	return api.Factor{From: from, Len: size}
}

// behind is factors, and more behind them, in memory of their own.
func behind(list []api.Factor, more ...api.Factor) []api.Factor {
	return slices.Concat(list, more)
}

// sameFrom is how many bytes stand in a text at one place as at another, from there on.
func sameFrom(text string, a, b int) int {
	n := 0
	for max(a, b)+n < len(text) && text[a+n] == text[b+n] {
		n++
	}
	return n
}

// comparedFactors is the pieces of a text, by trying each place ahead; only a longer one takes the place of one that was met.
func comparedFactors(text string) []api.Factor {
	var list []api.Factor
	for place := 0; place < len(text); {
		f := api.Factor{Byte: text[place]}
		for from := range place {
			if n := sameFrom(text, from, place); n > f.Len {
				f = taken(from, n)
			}
		}
		list = append(list, f)
		place += max(f.Len, 1)
	}
	return list
}

// fewestPieces is how few pieces a text can be made of, each one byte or some bytes that stand at a place ahead of it as well: tried with every length of every piece.
func fewestPieces(text string) int {
	fewest := make([]int, len(text)+1)
	for i := range fewest {
		fewest[i] = i
	}
	for place := range len(text) {
		longest := 1
		for from := range place {
			longest = max(longest, sameFrom(text, from, place))
		}
		for n := 1; n <= longest; n++ {
			fewest[place+n] = min(fewest[place+n], fewest[place]+1)
		}
	}
	return fewest[len(text)]
}
