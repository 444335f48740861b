package bucket

import (
	"slices"
	"testing"
)

func TestBucketsNeverRunOver(t *testing.T) {
	row := make([]int, 6)
	buckets := Cut(row, []int{2, 0, 3, 1})
	for b, room := range []int{2, 0, 3, 1} {
		if len(buckets[b]) != 0 || cap(buckets[b]) != room {
			t.Errorf("bucket %d: %d in it, room for %d, want 0 and %d", b, len(buckets[b]), cap(buckets[b]), room)
		}
	}
	buckets[2] = append(buckets[2], 7, 8, 9)
	buckets[0] = append(buckets[0], 1, 2, 3)
	buckets[1] = append(buckets[1], 4)
	if want := []int{0, 0, 7, 8, 9, 0}; !slices.Equal(row, want) {
		t.Errorf("too much in one bucket: the row is %v, want %v", row, want)
	}
}

func TestDealKeepsTheOrderOfLikes(t *testing.T) {
	places := []int{13, 2, 11, 23, 1, 3}
	got := Deal(places, 4, func(p int) int { return p % 10 })
	if want := []int{11, 1, 2, 13, 23, 3}; !slices.Equal(got, want) {
		t.Errorf("Deal gives %v, want %v", got, want)
	}
	if want := []int{13, 2, 11, 23, 1, 3}; !slices.Equal(places, want) {
		t.Errorf("Deal changed what it was given: %v", places)
	}
}

func TestUpTo(t *testing.T) {
	for n, want := range [][]int{{}, {0}, {0, 1}, {0, 1, 2}} {
		if got := UpTo(n); !slices.Equal(got, want) {
			t.Errorf("up to %d: %v, want %v", n, got, want)
		}
	}
}
