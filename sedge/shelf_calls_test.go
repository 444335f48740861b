package sedge_test

import (
	"slices"
	"testing"

	"sedge/api"
	"sedge/sedge"
)

// callShelf makes every call of a shelf.
func callShelf(s *sedge.Shelf, text string, n int) {
	s.Find(text)
	s.Top(text, n)
	s.Wide(n)
	s.Drop(n)
	s.Put(n, text)
	s.Find(text)
	s.Top(text, n)
	s.Wide(n)
}

// shelfTexts is the texts at the edges of what a shelf takes, and beyond.
func shelfTexts() []string {
	return append(extremeTexts(), over("\x00", 200), over("\xff", 200), over("ab", 201), over("ab", 199))
}

func TestP1NoCallOfAShelfPanics(t *testing.T) {
	defer func() {
		if r := recover(); r != nil {
			t.Fatalf("P1: a call of a shelf panicked: %v", r)
		}
	}()
	for _, x := range []texts{{}, {0: ""}, {999: "\x00\xff"}, {0: over("\x00", 200), 1: over("\xff", 200)}, twenty()} {
		for _, text := range shelfTexts() {
			empty, s := sedge.NewShelf(), shelfOf(t, x)
			for _, n := range extremeNumbers() {
				callShelf(empty, text, n)
				callShelf(s, text, n)
			}
		}
	}
}

// TestP1NothingChangesWithAnError: what is refused, at all numbers, leaves a shelf as it was, and nothing is told besides.
func TestP1NothingChangesWithAnError(t *testing.T) {
	for _, x := range []texts{{}, {0: ""}, {7: "banana", 3: "bandana", 999: ""}, twenty()} {
		s := shelfOf(t, x)
		for _, n := range extremeNumbers() {
			for _, text := range []string{"", over("a", 1001), over("ab", 100000)} {
				hits, e := s.Find(text)
				ids, f := s.Top(text, n)
				if len(hits) != 0 || len(ids) != 0 || e == api.OK || f != e {
					t.Errorf("P1: Find and Top of %d bytes = %v, %d, %v, %d", len(text), hits, e, ids, f)
				}
			}
			if _, is := x[n]; !is {
				drop(t, s, n, api.ErrNone)
			}
			if e := s.Put(n, over("a", 201)); e == api.OK {
				t.Errorf("P1: Put(%d) of 201 bytes = %d", n, e)
			}
			if n < 1 || n > len(x) {
				checkNotWide(t, s, n)
			}
		}
		checkShelf(t, s, x)
	}
}

// TestP1TheFirstNamedErrorOfAShelf: a pattern that can't be asked for is refused whatever the number, and a number that may not be whatever the text.
func TestP1TheFirstNamedErrorOfAShelf(t *testing.T) {
	full, x := fullShelf(t)
	for _, n := range extremeNumbers() {
		for _, s := range []*sedge.Shelf{sedge.NewShelf(), full} {
			if l, e := s.Top("", n); len(l) != 0 || e != api.ErrEmpty {
				t.Errorf("P1: Top of no bytes, %d = %v, %d, want nothing, ErrEmpty", n, l, e)
			}
			if l, e := s.Top(over("a", 1001), n); len(l) != 0 || e != api.ErrLong {
				t.Errorf("P1: Top of 1001 bytes, %d = %v, %d, want nothing, ErrLong", n, l, e)
			}
			if n < 0 || n > 999 {
				put(t, s, n, "", api.ErrId)
				put(t, s, n, over("a", 201), api.ErrId)
			}
		}
		if _, is := x[n]; !is && n >= 0 && n <= 999 {
			put(t, full, n, over("a", 201), api.ErrLong)
			put(t, full, n, over("a", 200), api.ErrFull)
		}
	}
	for _, id := range x.ids() {
		put(t, full, id, over("a", 201), api.ErrTwice)
		put(t, full, id, "", api.ErrTwice)
	}
}

func TestP2ShelvesSideBySide(t *testing.T) {
	all := shelves()
	var made []*sedge.Shelf
	for range all {
		made = append(made, sedge.NewShelf())
	}
	for round := range 20 {
		for i, x := range all {
			if ids := x.ids(); round < len(ids) {
				id := ids[len(ids)-1-round]
				put(t, made[i], id, x[id], api.OK)
				callAll("banana", "ana", id)
			}
		}
	}
	for i, x := range all {
		checkShelf(t, made[i], x)
	}
	for i := 0; i < len(all); i += 2 {
		for id := range all[i] {
			drop(t, made[i], id, api.OK)
		}
	}
	for i, x := range all {
		if i%2 == 0 {
			x = texts{}
		}
		checkShelf(t, made[i], x)
	}
}

// TestP2HowAShelfCameToBeIsNotSeen: the same texts, put by rising or falling numbers, behind refusals, or behind others that were dropped.
func TestP2HowAShelfCameToBeIsNotSeen(t *testing.T) {
	for _, x := range shelves() {
		rising, falling, used := sedge.NewShelf(), sedge.NewShelf(), sedge.NewShelf()
		for id := range 20 {
			put(t, used, id*50, over("banana", 200), api.OK)
		}
		for id := range 20 {
			drop(t, used, id*50, api.OK)
		}
		ids := x.ids()
		for i, id := range ids {
			back := ids[len(ids)-1-i]
			put(t, rising, id, x[id], api.OK)
			put(t, falling, back, over("a", 201), api.ErrLong)
			put(t, falling, back, x[back], api.OK)
			put(t, used, id, "other", api.OK)
			drop(t, used, id, api.OK)
			put(t, used, id, x[id], api.OK)
		}
		for _, s := range []*sedge.Shelf{rising, falling, used} {
			checkWidths(t, s, x)
			for _, pattern := range []string{"a", "ana", "\x00", "b", "banana"} {
				checkHits(t, s, pattern, x.hits(pattern)...)
				checkTop(t, s, pattern, 3, x.top(pattern, 3)...)
			}
		}
	}
}

func TestP2TheSameQuestionToAShelfAgain(t *testing.T) {
	for _, x := range shelves() {
		s, other := shelfOf(t, x), sedge.NewShelf()
		for range 3 {
			checkWidths(t, s, x)
			for _, pattern := range []string{"a", "an", "\xff", "sip"} {
				checkHits(t, s, pattern, x.hits(pattern)...)
				checkTop(t, s, pattern, 2, x.top(pattern, 2)...)
			}
			callShelf(other, "an", 2)
			callAll("banana", "an", 1)
		}
	}
}

// spoilHits writes over a list and over all its spare room, also by appending.
func spoilHits(l []api.Hit) {
	whole := l[:cap(l)]
	for i := range whole {
		whole[i] = hit(-7, -7)
	}
	for range 3 {
		l = append(l, hit(-9, -9))
	}
}

func TestP2ListsOfAShelfAreTheCallers(t *testing.T) {
	for _, x := range shelves() {
		s := shelfOf(t, x)
		for _, pattern := range []string{"a", "an", "b", "\x00", "nowhere"} {
			hits, _ := s.Find(pattern)
			kept, _ := s.Find(pattern)
			spoilHits(hits)
			if !slices.Equal(kept, x.hits(pattern)) {
				t.Fatalf("P2: writing over what Find told of %q changed another list: %v", pattern, kept)
			}
			for _, n := range []int{1, 2, 20} {
				ids, _ := s.Top(pattern, n)
				same, _ := s.Top(pattern, n)
				spoil(ids)
				if !slices.Equal(same, x.top(pattern, n)) || !slices.Equal(kept, x.hits(pattern)) {
					t.Fatalf("P2: writing over what Top told of %q changed another list: %v, %v", pattern, same, kept)
				}
				spoil(same)
			}
			spoilHits(kept)
		}
		checkShelf(t, s, x)
	}
}

// TestP2ACopyOfAShelf: what is done with a copy is not done with the shelf that NewShelf made.
func TestP2ACopyOfAShelf(t *testing.T) {
	x := texts{2: "abc", 5: "bc", 9: "c"}
	s := shelfOf(t, x)
	for _, id := range []int{2, 5, 9} {
		other := *s
		drop(t, &other, id, api.OK)
		put(t, &other, 0, "zero", api.OK)
		put(t, &other, 7, "seven", api.OK)
		checkShelf(t, s, x)
	}
	other := *s
	put(t, s, 3, "three", api.OK)
	put(t, &other, 4, "four", api.OK)
	x[3] = "three"
	checkShelf(t, s, x)
}

func TestP2WhatAShelfTellsIsNewMemory(t *testing.T) {
	text := over("banana", 200)
	s := sedge.NewShelf()
	put(t, s, 1, text, api.OK)
	put(t, s, 2, text, api.OK)
	for n := 1; n <= 2; n++ {
		part, _ := s.Wide(n)
		again, _ := s.Wide(n)
		if part != text || again != text || within(part, text) || within(again, part) {
			t.Errorf("P2: Wide(%d) shares memory with the text that was put, or with what was told before", n)
		}
	}
}
