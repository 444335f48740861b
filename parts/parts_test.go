package parts

import (
	"slices"
	"testing"
)

func TestCommonIsACopy(t *testing.T) {
	table := Of("banana")
	l := table.Common()
	if !slices.Equal(l, []int{0, 1, 3, 0, 0, 2}) {
		t.Fatalf("banana has in common %v", l)
	}
	clear(l[:cap(l)])
	if l := table.Common(); !slices.Equal(l, []int{0, 1, 3, 0, 0, 2}) || table.Count() != 15 {
		t.Errorf("behind a list that was written over: %v, and %d parts", l, table.Count())
	}
}

func TestEachPartOfOneTable(t *testing.T) {
	table := Of("abab")
	for n, want := range []string{"a", "ab", "aba", "abab", "b", "ba", "bab"} {
		if p, found := table.Nth(n); p != want || !found {
			t.Errorf("part %d is %q, %v, want %q", n, p, found, want)
		}
	}
	for _, n := range []int{-1 << 63, -1, 7, 8, 1<<63 - 1} {
		if p, found := table.Nth(n); p != "" || found {
			t.Errorf("part %d is %q, %v, want none", n, p, found)
		}
	}
}

func TestNoBytes(t *testing.T) {
	table := Of("")
	if p, found := table.Nth(0); p != "" || found || table.Count() != 0 || len(table.Common()) != 0 {
		t.Errorf("of no bytes: %q, %v, %d, %v", p, found, table.Count(), table.Common())
	}
}
