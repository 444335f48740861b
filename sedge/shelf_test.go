package sedge_test

import (
	"math/rand"
	"slices"
	"strings"
	"testing"

	"sedge/api"
	"sedge/sedge"
)

func hit(id, at int) api.Hit {
	return api.Hit{Id: id, At: at}
}

func TestP8AnEmptyShelf(t *testing.T) {
	s := sedge.NewShelf()
	if s == nil {
		t.Fatal("P8: NewShelf made no shelf")
	}
	checkShelf(t, s, texts{})
	for _, id := range extremeNumbers() {
		drop(t, s, id, api.ErrNone)
	}
}

func TestP8PutNumbers(t *testing.T) {
	for _, id := range []int{leastInt, leastInt + 1, -1000, -1, 1000, 1001, 1 << 32, greatestInt - 1, greatestInt} {
		s := sedge.NewShelf()
		put(t, s, id, "a", api.ErrId)
		put(t, s, id, "", api.ErrId)
		drop(t, s, id, api.ErrNone)
		checkShelf(t, s, texts{})
	}
	s := sedge.NewShelf()
	for _, id := range []int{0, 999, 1, 998, 500} {
		put(t, s, id, "a", api.OK)
	}
	checkShelf(t, s, texts{0: "a", 1: "a", 500: "a", 998: "a", 999: "a"})
}

func TestP8EveryNumberMayBe(t *testing.T) {
	for id := range 1000 {
		s := sedge.NewShelf()
		put(t, s, id, "ab", api.OK)
		checkHits(t, s, "b", hit(id, 1))
		drop(t, s, id, api.OK)
		checkHits(t, s, "b")
	}
}

func TestP8ANumberThatIsThere(t *testing.T) {
	for _, x := range shelves() {
		s := shelfOf(t, x)
		for id, text := range x {
			for _, other := range []string{text, "", "other", over("a", 200), over("a", 201)} {
				put(t, s, id, other, api.ErrTwice)
			}
		}
		checkShelf(t, s, x)
	}
}

func TestP8PutBytes(t *testing.T) {
	for _, piece := range []string{"a", "ab", "\x00", "\xff", "abcdefg"} {
		s, x := sedge.NewShelf(), texts{}
		for id, n := range []int{0, 1, 2, 199, 200} {
			put(t, s, id, over(piece, n), api.OK)
			x[id] = over(piece, n)
		}
		for _, n := range []int{201, 202, 256, 1000, 1001, 100000} {
			put(t, s, 7, over(piece, n), api.ErrLong)
		}
		drop(t, s, 7, api.ErrNone)
		checkHits(t, s, over(piece, 200), x.hits(over(piece, 200))...)
		put(t, s, 7, "b", api.OK)
		checkHits(t, s, "b", append(x.hits("b"), hit(7, 0))...)
	}
}

func TestP8TheTwentyFirstText(t *testing.T) {
	for _, text := range []string{"", "a", over("ab", 200)} {
		s, x := sedge.NewShelf(), texts{}
		for i := range 20 {
			put(t, s, 40*i+3, text, api.OK)
			x[40*i+3] = text
		}
		for _, id := range []int{0, 2, 4, 500, 764, 999} {
			for _, other := range []string{"", "b", text, over("b", 200)} {
				put(t, s, id, other, api.ErrFull)
				drop(t, s, id, api.ErrNone)
			}
		}
		checkIds(t, s, x)
		checkHits(t, s, "a", x.hits("a")...)
		checkWide(t, s, 20, text)
		checkNotWide(t, s, 21)
	}
}

// fullShelf is a shelf of twenty texts, and these.
func fullShelf(t *testing.T) (*sedge.Shelf, texts) {
	t.Helper()
	x := twenty()
	if len(x) != 20 {
		t.Fatalf("%d texts, want 20", len(x))
	}
	return shelfOf(t, x), x
}

// TestP8SeveralErrors: each pair of errors that can apply at once, and three. (No number that may not be is there.)
func TestP8SeveralErrors(t *testing.T) {
	full, x := fullShelf(t)
	some := shelfOf(t, texts{5: "abc"})
	there, long := x.ids()[7], over("a", 201)
	put(t, some, -1, long, api.ErrId)
	put(t, some, 1000, long, api.ErrId)
	put(t, full, -1, "a", api.ErrId)
	put(t, full, 1000, "a", api.ErrId)
	put(t, full, leastInt, long, api.ErrId)
	put(t, full, greatestInt, long, api.ErrId)
	put(t, some, 5, long, api.ErrTwice)
	put(t, full, there, "a", api.ErrTwice)
	put(t, full, there, x[there], api.ErrTwice)
	put(t, full, there, long, api.ErrTwice)
	put(t, full, 500, long, api.ErrLong)
	put(t, full, 500, "a", api.ErrFull)
	checkShelf(t, some, texts{5: "abc"})
	checkShelf(t, full, x)
}

func TestP8Drop(t *testing.T) {
	s := shelfOf(t, texts{3: "abc", 0: "ab", 999: "a"})
	for _, id := range []int{leastInt, -1, 1, 2, 4, 998, 1000, greatestInt} {
		drop(t, s, id, api.ErrNone)
	}
	checkShelf(t, s, texts{3: "abc", 0: "ab", 999: "a"})
	drop(t, s, 3, api.OK)
	checkShelf(t, s, texts{0: "ab", 999: "a"})
	drop(t, s, 3, api.ErrNone)
	checkShelf(t, s, texts{0: "ab", 999: "a"})
	put(t, s, 3, "xyz", api.OK)
	put(t, s, 3, "abc", api.ErrTwice)
	checkShelf(t, s, texts{3: "xyz", 0: "ab", 999: "a"})
	drop(t, s, 0, api.OK)
	drop(t, s, 999, api.OK)
	checkShelf(t, s, texts{3: "xyz"})
	drop(t, s, 3, api.OK)
	drop(t, s, 3, api.ErrNone)
	checkShelf(t, s, texts{})
	put(t, s, 3, "", api.OK)
	checkShelf(t, s, texts{3: ""})
	drop(t, s, 3, api.OK)
	checkShelf(t, s, texts{})
}

func TestP8RoomAgainBehindADrop(t *testing.T) {
	s, x := fullShelf(t)
	for i, id := range x.ids() {
		put(t, s, 500+i, "new", api.ErrFull)
		drop(t, s, id, api.OK)
		delete(x, id)
		put(t, s, 500+i, "new", api.OK)
		x[500+i] = "new"
		put(t, s, id, "again", api.ErrFull)
		checkIds(t, s, x)
	}
	checkShelf(t, s, x)
	drop(t, s, 503, api.OK)
	drop(t, s, 519, api.OK)
	put(t, s, 519, "a", api.OK)
	put(t, s, 0, "b", api.OK)
	put(t, s, 503, "c", api.ErrFull)
}

func TestP9TheExample(t *testing.T) {
	s := sedge.NewShelf()
	put(t, s, 7, "banana", api.OK)
	put(t, s, 3, "bandana", api.OK)
	checkHits(t, s, "ana", hit(3, 4), hit(7, 1), hit(7, 3))
	checkTop(t, s, "ana", 5, 7, 3)
	checkWide(t, s, 2, "ana")
	checkWide(t, s, 1, "bandana")
}

func TestP9ManyShelves(t *testing.T) {
	for _, x := range shelves() {
		checkShelf(t, shelfOf(t, x), x)
	}
}

func TestP9FindByHand(t *testing.T) {
	s := sedge.NewShelf()
	for _, id := range []int{900, 20, 3, 100, 0} {
		put(t, s, id, "aaa", api.OK)
	}
	checkHits(t, s, "aa", hit(0, 0), hit(0, 1), hit(3, 0), hit(3, 1), hit(20, 0), hit(20, 1), hit(100, 0), hit(100, 1), hit(900, 0), hit(900, 1))
	checkHits(t, s, "aaa", hit(0, 0), hit(3, 0), hit(20, 0), hit(100, 0), hit(900, 0))
	checkHits(t, s, "aaaa")
	checkHits(t, s, "b")
	checkHits(t, s, "aab")
	put(t, s, 50, "abaababa", api.OK)
	checkHits(t, s, "aba", hit(50, 0), hit(50, 3), hit(50, 5))
}

func TestP9PatternsOfManyBytes(t *testing.T) {
	for _, x := range []texts{{}, {0: ""}, {4: over("a", 200), 2: over("a", 199), 9: "a"}} {
		s := shelfOf(t, x)
		for _, n := range []int{1, 2, 198, 199, 200, 201, 999, 1000} {
			checkHits(t, s, over("a", n), x.hits(over("a", n))...)
			checkTop(t, s, over("a", n), 2, x.top(over("a", n), 2)...)
		}
		for _, n := range []int{1001, 1002, 100000, 0} {
			want := api.ErrLong
			if n == 0 {
				want = api.ErrEmpty
			}
			if l, e := s.Find(over("a", n)); len(l) != 0 || e != want {
				t.Errorf("P9: Find of %d bytes = %v, %d, want nothing, %d", n, l, e, want)
			}
			for _, most := range extremeNumbers() {
				if l, e := s.Top(over("a", n), most); len(l) != 0 || e != want {
					t.Errorf("P9: Top of %d bytes, %d = %v, %d, want nothing, %d", n, most, l, e, want)
				}
			}
		}
	}
}

// TestP9NothingStandsAcrossTwoTexts: also not with a byte between them that could be taken for the border.
func TestP9NothingStandsAcrossTwoTexts(t *testing.T) {
	x := texts{1: "abc", 2: "def", 3: "abc", 4: "", 5: "def"}
	s := shelfOf(t, x)
	for _, pattern := range []string{"cd", "abcdef", "bcde", "fa", "defabc", "defdef", "abcabc", "ca", "fd"} {
		checkHits(t, s, pattern)
		checkTop(t, s, pattern, 20)
	}
	for b := range 256 {
		border := string([]byte{byte(b)})
		checkHits(t, s, "c"+border+"d")
		checkHits(t, s, "abc"+border)
		checkHits(t, s, border+"def")
	}
	checkWide(t, s, 2, "abc")
	checkWide(t, s, 3, "")
	put(t, s, 6, "cdef", api.OK)
	put(t, s, 7, "bcdef", api.OK)
	checkWide(t, s, 2, "cdef")
	checkHits(t, s, "cd", hit(6, 0), hit(7, 1))
}

func TestP9TopByHand(t *testing.T) {
	s := shelfOf(t, texts{9: "aa", 4: "ab", 6: "baaa", 2: "a", 8: "bbb", 1: "", 7: "aba", 5: "xaxax"})
	for n, want := range [][]int{nil, {6}, {6, 5}, {6, 5, 7}, {6, 5, 7, 9}, {6, 5, 7, 9, 2}, {6, 5, 7, 9, 2, 4}, {6, 5, 7, 9, 2, 4}, {6, 5, 7, 9, 2, 4}} {
		checkTop(t, s, "a", n, want...)
	}
	for _, n := range []int{leastInt, leastInt + 1, -20, -1} {
		checkTop(t, s, "a", n)
	}
	for _, n := range []int{20, 1000, 1 << 32, greatestInt} {
		checkTop(t, s, "a", n, 6, 5, 7, 9, 2, 4)
		checkTop(t, s, "aa", n, 6, 9)
		checkTop(t, s, "z", n)
	}
}

func TestP9TopOfEquallyOften(t *testing.T) {
	s, want := sedge.NewShelf(), []int(nil)
	for i := range 20 {
		put(t, s, (i*370+11)%1000, strings.Repeat("-", i)+"ab", api.OK)
		want = append(want, (i*370+11)%1000)
	}
	slices.Sort(want)
	for n := range 25 {
		checkTop(t, s, "ab", n, want[:min(n, 20)]...)
	}
	drop(t, s, want[4], api.OK)
	put(t, s, want[4], "abab", api.OK)
	checkTop(t, s, "ab", 3, want[4], want[0], want[1])
}

func TestP9WideByHand(t *testing.T) {
	for _, c := range []struct {
		x    texts
		want []string // with 1 text, with 2, and so on
	}{
		{texts{0: ""}, []string{""}},
		{texts{0: "", 1: ""}, []string{"", ""}},
		{texts{0: "", 1: "ab"}, []string{"ab", ""}},
		{texts{0: "abc", 1: "def"}, []string{"abc", ""}},
		{texts{0: "def", 1: "abc"}, []string{"abc", ""}},
		{texts{0: "banana", 1: "banana"}, []string{"banana", "banana"}},
		{texts{0: "banana", 1: "banana", 2: "ananas"}, []string{"ananas", "banana", "anana"}},
		{texts{0: "xyab", 1: "abxy", 2: "qabxy"}, []string{"qabxy", "abxy", "ab"}},
		{texts{0: "xyab", 1: "abxy", 2: ""}, []string{"abxy", "ab", ""}},
		{texts{0: "zzab", 1: "cdzz", 2: "abcd"}, []string{"abcd", "ab", ""}},
		{texts{0: "\xff\x00", 1: "\x00\xff"}, []string{"\x00\xff", "\x00"}},
		{texts{0: "\x7f\x80", 1: "\x80\x7f", 2: "\x80"}, []string{"\x7f\x80", "\x7f", "\x80"}},
		{texts{0: "aaaa", 1: "aaa", 2: "aa", 3: "a", 4: ""}, []string{"aaaa", "aaa", "aa", "a", ""}},
		{texts{0: "", 1: "a", 2: "aa", 3: "aaa", 4: "aaaa"}, []string{"aaaa", "aaa", "aa", "a", ""}},
		{texts{0: "abab", 1: "b", 2: "c"}, []string{"abab", "b", ""}},
	} {
		s := shelfOf(t, c.x)
		for i, want := range c.want {
			checkWide(t, s, i+1, want)
		}
		checkWidths(t, s, c.x)
	}
}

func TestP9WideOftenInOneText(t *testing.T) {
	s := shelfOf(t, texts{0: "abcabcabcabc", 1: "xbcx", 2: "yyby"})
	checkWide(t, s, 2, "bc")
	checkWide(t, s, 3, "b")
	checkWide(t, s, 1, "abcabcabcabc")
}

func TestP9TheMostTextsAndBytes(t *testing.T) {
	s, x := sedge.NewShelf(), texts{}
	for i := range 20 {
		x[i*50] = over("ab", 200-i)
		put(t, s, i*50, x[i*50], api.OK)
	}
	for n := 1; n <= 20; n++ {
		checkWide(t, s, n, over("ab", 201-n))
	}
	for _, pattern := range []string{"a", "b", "ab", over("ab", 190), over("ba", 150), over("ab", 200)} {
		checkHits(t, s, pattern, x.hits(pattern)...)
		checkTop(t, s, pattern, 9, x.top(pattern, 9)...)
	}
}

func TestP9LongDrawnTexts(t *testing.T) {
	common := drawn(99, 60, 256)
	x := texts{}
	for i := range 6 {
		x[i*11+5] = drawn(int64(i), 140-i, 2) + common[i:]
	}
	s := shelfOf(t, x)
	checkWidths(t, s, x)
	checkWide(t, s, 6, common[5:])
	checkHits(t, s, common[5:], x.hits(common[5:])...)
}

// TestP9EveryThreeShortTexts: every two of them, too, where the third has no bytes.
func TestP9EveryThreeShortTexts(t *testing.T) {
	eachText("ab", 3, func(a string) {
		eachText("ab", 3, func(b string) {
			eachText("ab", 3, func(c string) {
				x := texts{8: a, 3: b, 40: c}
				s := shelfOf(t, x)
				checkWidths(t, s, x)
				for _, pattern := range []string{"a", "ba", "aba"} {
					checkHits(t, s, pattern, x.hits(pattern)...)
					checkTop(t, s, pattern, 2, x.top(pattern, 2)...)
				}
			})
		})
	})
}

// TestP9BehindManyPutsAndDrops: a shelf in use, asked all along, against the texts that should stand there.
func TestP9BehindManyPutsAndDrops(t *testing.T) {
	r := rand.New(rand.NewSource(3))
	s, x := sedge.NewShelf(), texts{}
	full, twice := 0, 0
	for round := range 600 {
		id, text := r.Intn(30)*34, drawn(int64(round), r.Intn(9), 2+r.Intn(2))
		_, is := x[id]
		switch {
		case r.Intn(3) == 0 && is:
			drop(t, s, id, api.OK)
			delete(x, id)
		case is:
			put(t, s, id, text, api.ErrTwice)
			twice++
		case len(x) == 20:
			put(t, s, id, text, api.ErrFull)
			drop(t, s, id, api.ErrNone)
			full++
		default:
			put(t, s, id, text, api.OK)
			x[id] = text
		}
		checkHits(t, s, "\x00\xff", x.hits("\x00\xff")...)
		checkTop(t, s, "\xff", 5, x.top("\xff", 5)...)
		if round%10 == 0 {
			checkWidths(t, s, x)
		}
	}
	if full == 0 || twice == 0 {
		t.Errorf("the shelf was full %d times, a number taken %d times: draw others", full, twice)
	}
	checkShelf(t, s, x)
}
