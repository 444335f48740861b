package parts

import (
	"slices"
	"testing"
)

func TestCommonIsACopy(t *testing.T) {
	table := Of("banana")
	l := table.Common()
	if !slices.Equal(l, []int{0, 1, 3, 0, 0, 2}) {
		t.Fatalf("banana has in common %v", l)
	}
	clear(l[:cap(l)])
	if l := table.Common(); !slices.Equal(l, []int{0, 1, 3, 0, 0, 2}) || table.Count() != 15 {
		t.Errorf("behind a list that was written over: %v, and %d parts", l, table.Count())
	}
}

func TestEachPartOfOneTable(t *testing.T) {
	table := Of("abab")
	for n, want := range []string{"a", "ab", "aba", "abab", "b", "ba", "bab"} {
		if p, found := table.Nth(n); p != want || !found {
			t.Errorf("part %d is %q, %v, want %q", n, p, found, want)
		}
	}
	for _, n := range []int{-1 << 63, -1, 7, 8, 1<<63 - 1} {
		if p, found := table.Nth(n); p != "" || found {
			t.Errorf("part %d is %q, %v, want none", n, p, found)
		}
	}
}

func TestNoBytes(t *testing.T) {
	table := Of("")
	if p, found := table.Nth(0); p != "" || found || table.Count() != 0 || len(table.Common()) != 0 {
		t.Errorf("of no bytes: %q, %v, %d, %v", p, found, table.Count(), table.Common())
	}
}

func TestPlacesAreACopy(t *testing.T) {
	table := Of("banana")
	l := table.Places("a")
	if !slices.Equal(l, []int{1, 3, 5}) {
		t.Fatalf("a stands in banana at %v", l)
	}
	clear(l[:cap(l)])
	if l := table.Places("a"); !slices.Equal(l, []int{1, 3, 5}) || table.Count() != 15 {
		t.Errorf("behind a list that was written over: %v, and %d parts", l, table.Count())
	}
}

func TestPlacesAheadOfAllEndsAndBehindThem(t *testing.T) {
	table := Of("banana")
	for _, pattern := range []string{"\x00", "A", "az", "bananas", "c", "nanab", "z", "\xff"} {
		if l := table.Places(pattern); len(l) != 0 {
			t.Errorf("%q stands in banana at %v", pattern, l)
		}
	}
}

func TestReach(t *testing.T) {
	for _, c := range []struct {
		text, pattern string
		want          int
	}{
		{"", "a", 0}, {"a", "", 0}, {"banana", "anas", 3}, {"banana", "ananas", 5}, {"banana", "bananas", 6}, {"banana", "nab", 2},
		{"banana", "nano", 3}, {"banana", "\x00a", 0}, {"banana", "z", 0}, {"banana", "az", 1}, {"banana", "a\x00", 1}, {"banana", "banana", 6},
	} {
		if got := Of(c.text).Reach(c.pattern); got != c.want {
			t.Errorf("%d bytes of %q are a part of %q, want %d", got, c.pattern, c.text, c.want)
		}
	}
}

func TestEarlier(t *testing.T) {
	type found struct{ from, size int }
	for text, list := range map[string][]found{
		"a":      {{}},
		"abc":    {{}, {}, {}},
		"aaaa":   {{}, {0, 3}, {0, 2}, {0, 1}},
		"banana": {{}, {}, {}, {1, 3}, {2, 2}, {1, 1}},
		"abcab":  {{}, {}, {}, {0, 2}, {1, 1}},
		"xa.ya!": {{}, {}, {}, {}, {1, 1}, {}},
		"xa!ya.": {{}, {}, {}, {}, {1, 1}, {}},
	} {
		table := Of(text)
		for place, want := range list {
			if from, size := table.Earlier(place); from != want.from || size != want.size {
				t.Errorf("%q at %d stands at %d too, with %d bytes, want %v", text, place, from, size, want)
			}
		}
	}
}

// TestSameAheadAndBehind: the last ab of the first text is the first of all its ends; ab! of the second one stands between aayabab! and abab!.
func TestSameAheadAndBehind(t *testing.T) {
	table := Of("xacyabzab")
	rank := table.ahead("ab")
	if ahead, behind := table.sameAhead(rank), table.sameBehind(rank); ahead != 0 || behind != 2 {
		t.Errorf("the last ab has %d bytes in common ahead, %d behind, want 0 and 2", ahead, behind)
	}
	table = Of("xaayabab!")
	rank = table.ahead("ab!")
	if ahead, behind := table.sameAhead(rank), table.sameBehind(rank); ahead != 1 || behind != 2 {
		t.Errorf("ab! has %d bytes in common ahead, %d behind, want 1 and 2", ahead, behind)
	}
}
