package turn

import (
	"slices"
	"testing"
)

func TestTheMarkIsAnEndToo(t *testing.T) {
	for text, want := range map[string][]int{"": {0}, "a": {1, 0}, "banana": {6, 5, 3, 1, 0, 4, 2}, "\x00\x00": {2, 1, 0}} {
		if got := marked(text); !slices.Equal(got, want) {
			t.Errorf("the ends of %q with the mark: %v, want %v", text, got, want)
		}
	}
}

func TestWhatStandsAhead(t *testing.T) {
	for i, want := range []int{'a' + 1, 1, 0, 256} {
		if got := ahead("a\x00\xff", 2, i); got != want {
			t.Errorf("ahead of row %d stands %d, want %d", i, got, want)
		}
	}
}

// TestEachRowIsFollowedByAnother: also where no text was turned, no two rows go on to the same one; so the way back always ends.
func TestEachRowIsFollowedByAnother(t *testing.T) {
	for _, last := range []string{"", "a", "ab", "ba", "annbaa", "\xff\x00\xff\x00", "aaaaaaa"} {
		for row := range len(last) + 1 {
			next := following(last, row)
			if next[0] != row {
				t.Errorf("%q, %d: behind the mark comes %d", last, row, next[0])
			}
			slices.Sort(next)
			for i, n := range next {
				if i != n {
					t.Fatalf("%q, %d: the rows that follow, sorted: %v", last, row, next)
				}
			}
		}
	}
}

func TestTextAndBack(t *testing.T) {
	last, row := Text("banana")
	if last != "annbaa" || row != 4 {
		t.Errorf("banana is turned to %q, %d", last, row)
	}
	if text, found := Back(last, row); text != "banana" || !found {
		t.Errorf("back it is %q, %v", text, found)
	}
	for _, row := range []int{-1 << 63, -1, 0, 1, 7, 1<<63 - 1} {
		if text, found := Back(last, row); text != "" || found {
			t.Errorf("back from row %d it is %q, %v, want none", row, text, found)
		}
	}
}
