package sedge_test

import (
	"slices"
	"strings"
	"testing"

	"sedge/api"
	"sedge/sedge"
)

func checkFind(t *testing.T, text, pattern string) {
	t.Helper()
	want := comparedPlaces(text, pattern)
	if l, e := sedge.Find(text, pattern); !slices.Equal(l, want) || e != api.OK {
		t.Fatalf("P5: Find of %.60q (%d bytes) in %.60q (%d bytes) = %v, %d, want %v", pattern, len(pattern), text, len(text), l, e, want)
	}
}

func TestP5FindByHand(t *testing.T) {
	for _, c := range []struct {
		text, pattern string
		want          []int
	}{
		{"banana", "ana", []int{1, 3}},
		{"banana", "a", []int{1, 3, 5}},
		{"banana", "b", []int{0}},
		{"banana", "na", []int{2, 4}},
		{"banana", "nan", []int{2}},
		{"banana", "banana", []int{0}},
		{"banana", "bananas", nil},
		{"banana", "anas", nil},
		{"banana", "c", nil},
		{"banana", "A", nil},
		{"banana", "z", nil},
		{"banana", "\x00", nil},
		{"banana", "\xff", nil},
		{"aaaa", "aa", []int{0, 1, 2}},
		{"abababa", "aba", []int{0, 2, 4}},
		{"\x00\xff\x00", "\x00", []int{0, 2}},
		{"\x00\xff\x00", "\xff\x00", []int{1}},
		{"\xff\xff\xff", "\xff\xff", []int{0, 1}},
		{"\xc3\xa4\xc3\xa5", "\xc3", []int{0, 2}},
		{"", "a", nil},
		{"a", "a", []int{0}},
		{"a", "aa", nil},
	} {
		if l, e := sedge.Find(c.text, c.pattern); !slices.Equal(l, c.want) || e != api.OK {
			t.Errorf("P5: Find of %q in %q = %v, %d, want %v", c.pattern, c.text, l, e, c.want)
		}
	}
}

// patternsNear is every part of a text, and each with a byte more, less or changed at its end.
func patternsNear(text string) []string {
	list := []string{"\x00", "\xff", "a", "zz", text + "a", "a" + text, text + text + "\x00"}
	for _, part := range sortedParts(text) {
		shorter, last := part[:len(part)-1], part[len(part)-1]
		list = append(list, part, part+"\x00", part+"a", part+"\xff")
		list = append(list, shorter+string([]byte{last + 1}), shorter+string([]byte{last - 1}))
	}
	return list
}

func TestP5FindEveryPartOfShortTexts(t *testing.T) {
	for _, text := range shortTexts() {
		for _, pattern := range patternsNear(text) {
			checkFind(t, text, pattern)
		}
	}
}

func TestP5FindEveryShortPattern(t *testing.T) {
	eachText("\x00\xff", 6, func(text string) {
		eachText("\x00\xff", 7, func(pattern string) {
			if pattern != "" {
				checkFind(t, text, pattern)
			}
		})
	})
	eachText("abc", 4, func(text string) {
		eachText("abcd", 3, func(pattern string) {
			if pattern != "" {
				checkFind(t, text, pattern)
			}
		})
	})
}

func TestP5FindInLongTexts(t *testing.T) {
	texts := longTexts()
	for i, text := range texts {
		for from := 0; from < len(text); from += 83 {
			for _, size := range []int{1, 2, 3, 5, 50, 400, 1000} {
				part := text[from:min(from+size, len(text))]
				checkFind(t, text, part)
				checkFind(t, text, part[:len(part)-1]+"a")
				checkFind(t, texts[(i+1)%len(texts)], part)
			}
		}
		checkFind(t, text, text[1:])
		checkFind(t, text, text[:len(text)-1])
		checkFind(t, text[1:], text)
		checkFind(t, text[:len(text)-1], text)
	}
}

// TestP5FindTheMostBytes: each of text and pattern has no bytes, one, the most or one too many.
func TestP5FindTheMostBytes(t *testing.T) {
	sizes := []int{0, 1, 1000, 1001, 5000}
	for _, n := range sizes {
		for _, m := range sizes {
			text, pattern := over("a", n), over("a", m)
			want := api.OK
			switch {
			case n > 1000 || m > 1000:
				want = api.ErrLong
			case m == 0:
				want = api.ErrEmpty
			}
			if want == api.OK {
				checkFind(t, text, pattern)
			} else if l, e := sedge.Find(text, pattern); len(l) != 0 || e != want {
				t.Errorf("P5: Find of %d bytes in %d = %v, %d, want nothing, %d", m, n, l, e, want)
			}
		}
	}
}

func checkShared(t *testing.T, a, b string) {
	t.Helper()
	want := comparedSpan(a, b)
	if s, e := sedge.Shared(a, b); s != want || e != api.OK {
		t.Fatalf("P5: Shared of %.60q (%d bytes) and %.60q (%d bytes) = %+v, %d, want %+v", a, len(a), b, len(b), s, e, want)
	}
}

func TestP5SharedByHand(t *testing.T) {
	for _, c := range []struct {
		a, b string
		want api.Span
	}{
		{"banana", "ananas", api.Span{Len: 5, A: 1, B: 0}},
		{"ananas", "banana", api.Span{Len: 5, A: 0, B: 1}},
		{"banana", "banana", api.Span{Len: 6}},
		{"aaaa", "aaaa", api.Span{Len: 4}},
		{"", "", api.Span{}},
		{"", "banana", api.Span{}},
		{"banana", "", api.Span{}},
		{"abc", "xyz", api.Span{}},
		{"xyz", "abc", api.Span{}},
		{"\x00", "\xff", api.Span{}},
		{"\x00", "\x00", api.Span{Len: 1}},
		{"ab", "ba", api.Span{Len: 1, A: 0, B: 1}},
		{"cdxab", "ab_cd", api.Span{Len: 2, A: 0, B: 3}},
		{"abxcd", "cd_ab", api.Span{Len: 2, A: 0, B: 3}},
		{"zzab_ab", "yab.ab", api.Span{Len: 2, A: 2, B: 1}},
		{"xa", "bbaxb", api.Span{Len: 1, A: 0, B: 3}},
		{"aab", "baba", api.Span{Len: 2, A: 1, B: 1}},
		{"xxxx", "axxbxxx", api.Span{Len: 3, A: 0, B: 4}},
		{"one two three", "three two one", api.Span{Len: 6, A: 2, B: 4}},
	} {
		if s, e := sedge.Shared(c.a, c.b); s != c.want || e != api.OK {
			t.Errorf("P5: Shared of %q and %q = %+v, %d, want %+v", c.a, c.b, s, e, c.want)
		}
	}
}

func TestP5SharedOfEveryTwoShortTexts(t *testing.T) {
	eachText("\x00\xff", 6, func(a string) {
		eachText("\x00\xff", 6, func(b string) { checkShared(t, a, b) })
	})
	eachText("abc", 4, func(a string) {
		eachText("bcd", 4, func(b string) { checkShared(t, a, b) })
	})
	for _, a := range shortTexts() {
		for _, b := range shortTexts() {
			checkShared(t, a, b)
		}
	}
}

func TestP5SharedOfDrawnTexts(t *testing.T) {
	for seed := range int64(300) {
		a := drawn(seed, int(seed)%70, 2+int(seed)%3)
		b := drawn(seed+1000, int(seed*7)%80, 2+int(seed)%3)
		checkShared(t, a, b)
	}
}

// TestP5SharedLongParts: of a long part that stands in both, the place is known; the rest of the texts has no byte in common.
func TestP5SharedLongParts(t *testing.T) {
	part := drawn(11, 400, 4)
	for _, n := range []int{0, 1, 200, 600} {
		for _, m := range []int{0, 1, 200, 600} {
			a := over("<", n) + part + over("<", 600-n)
			b := over(">", m) + part + over(">", 600-m)
			if s, e := sedge.Shared(a, b); s != (api.Span{Len: 400, A: n, B: m}) || e != api.OK {
				t.Errorf("P5: Shared of a part at %d and at %d = %+v, %d", n, m, s, e)
			}
		}
	}
}

func TestP5SharedOfATextWithItself(t *testing.T) {
	for _, text := range append(shortTexts(), longTexts()...) {
		if s, e := sedge.Shared(text, text); s != (api.Span{Len: len(text)}) || e != api.OK {
			t.Errorf("P5: Shared of %.60q (%d bytes) with itself = %+v, %d", text, len(text), s, e)
		}
		if text == "" {
			continue
		}
		if s, e := sedge.Shared(text, text[1:]); s.Len != len(text)-1 || s.A != strings.Index(text, text[1:]) || s.B != 0 || e != api.OK {
			t.Errorf("P5: Shared of %.60q (%d bytes) and all but its first byte = %+v, %d", text, len(text), s, e)
		}
	}
}

// TestP5SharedTheMostBytes: each side has no bytes, one, the most or one too many.
func TestP5SharedTheMostBytes(t *testing.T) {
	sizes := []int{0, 1, 1000, 1001, 5000}
	for _, n := range sizes {
		for _, m := range sizes {
			want, wantErrno := api.Span{Len: min(n, m)}, api.OK
			if n > 1000 || m > 1000 {
				want, wantErrno = api.Span{}, api.ErrLong
			}
			if s, e := sedge.Shared(over("ab", n), over("ab", m)); s != want || e != wantErrno {
				t.Errorf("P5: Shared of %d and %d bytes = %+v, %d, want %+v, %d", n, m, s, e, want, wantErrno)
			}
		}
	}
}
