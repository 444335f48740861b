package ends

import (
	"math/rand"
	"slices"
	"testing"

	"sedge/bucket"
)

func TestNamesAreTheSameForLikes(t *testing.T) {
	names := named([]int{4, 0, 2, 1}, 6, func(a, b int) bool { return a%2 == b%2 })
	if want := []int{0, 1, 0, 0, 0, 0}; !slices.Equal(names.nums, want) || names.kinds != 2 {
		t.Errorf("names %v of %d kinds, want %v of 2", names.nums, names.kinds, want)
	}
}

func TestWhereEndsBeginToFall(t *testing.T) {
	for text, want := range map[string][]int{"": nil, "a": nil, "cba": nil, "abc": {2}, "banana": {2, 4}, "aabbaabb": {2, 6}} {
		if got := Of(text).sloped().starts(); !slices.Equal(got, want) {
			t.Errorf("ends of %q begin to fall at %v, want %v", text, got, want)
		}
	}
}

func TestTwoOfEachThreePlacesAreChosen(t *testing.T) {
	for n := range 20 {
		r := Row{nums: make([]int, n), kinds: 1}
		chosen := r.sortedChosen()
		if want := n - n/3; len(chosen) != want {
			t.Errorf("of %d places %d are chosen, want %d", n, len(chosen), want)
		}
	}
}

// compared sorts the ends of a row as the library does.
func compared(r Row) []int {
	order := bucket.UpTo(len(r.nums))
	slices.SortFunc(order, func(a, b int) int { return slices.Compare(r.nums[a:], r.nums[b:]) })
	return order
}

func checkWays(t *testing.T, r Row) {
	t.Helper()
	want, before := compared(r), slices.Clone(r.nums)
	for i, way := range []func(Row) []int{Row.Doubling, Row.Inducing, Row.Thirds} {
		if got := way(r); !slices.Equal(got, want) {
			t.Fatalf("way %d puts the ends of %v in the order %v, want %v", i, r.nums, got, want)
		}
		if !slices.Equal(r.nums, before) {
			t.Fatalf("way %d changed the row %v to %v", i, before, r.nums)
		}
	}
}

func TestWaysSortRowsOfManyKinds(t *testing.T) {
	r := rand.New(rand.NewSource(2))
	for n := range 200 {
		for _, kinds := range []int{1, 2, 3, 300, 5000} {
			row := Row{nums: make([]int, n), kinds: kinds}
			for p := range row.nums {
				row.nums[p] = r.Intn(kinds)
			}
			checkWays(t, row)
		}
	}
}

// TestWaysSortWhatComesAgainAndAgain: pieces of pieces, so that the ways go several rows deep.
func TestWaysSortWhatComesAgainAndAgain(t *testing.T) {
	text := "a"
	for depth := range 9 {
		checkWays(t, Of(text))
		checkWays(t, Of(text+"a"))
		checkWays(t, Of(text+"\x00"+text))
		text += string(rune('b'+depth%3)) + text
	}
}

func TestOfTellsEachByte(t *testing.T) {
	if r := Of("a\x00\xff"); !slices.Equal(r.nums, []int{97, 0, 255}) || r.kinds != 256 {
		t.Errorf("the row is %v of %d kinds", r.nums, r.kinds)
	}
}
