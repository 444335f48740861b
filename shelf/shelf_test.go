package shelf

import (
	"slices"
	"testing"
	"unsafe"

	"sedge/api"
	"sedge/parts"
)

// some is three texts, put neither by rising nor by falling numbers.
func some() Texts {
	return Texts{}.With(5, "bandana").With(9, "banana").With(2, "cab")
}

func (t Texts) ids() []int {
	var ids []int
	for _, e := range t.list {
		ids = append(ids, e.id)
	}
	return ids
}

func TestSeek(t *testing.T) {
	for id, want := range map[int]int{-1 << 63: 0, 1: 0, 2: 0, 3: 1, 5: 1, 6: 2, 9: 2, 10: 3, 1<<63 - 1: 3} {
		at, found := some().seek(id)
		if is := id == 2 || id == 5 || id == 9; at != want || found != is || some().Has(id) != is {
			t.Errorf("%d stands at %d, %v, want %d, %v", id, at, found, want, is)
		}
	}
}

func TestWithAndWithoutLeaveTheTextsAsTheyWere(t *testing.T) {
	x := some()
	for id, want := range map[int][]int{0: {0, 2, 5, 9}, 3: {2, 3, 5, 9}, 7: {2, 5, 7, 9}, 10: {2, 5, 9, 10}} {
		if more := x.With(id, "new"); !slices.Equal(more.ids(), want) || more.Count() != 4 {
			t.Errorf("with %d: %v, want %v", id, more.ids(), want)
		}
	}
	for id, want := range map[int][]int{2: {5, 9}, 5: {2, 9}, 9: {2, 5}} {
		if less := x.Without(id); !slices.Equal(less.ids(), want) || less.Count() != 2 {
			t.Errorf("without %d: %v, want %v", id, less.ids(), want)
		}
	}
	if !slices.Equal(x.list, []entry{{2, "cab"}, {5, "bandana"}, {9, "banana"}}) {
		t.Errorf("then there are %v", x.list)
	}
}

func TestATextIsACopy(t *testing.T) {
	text := "banana"
	if kept := (Texts{}).With(1, text).list[0].text; kept != text || unsafe.StringData(kept) == unsafe.StringData(text) {
		t.Errorf("%q is kept in the memory that it came in", kept)
	}
}

func TestFind(t *testing.T) {
	if l := some().Find("an"); !slices.Equal(l, []api.Hit{{Id: 5, At: 1}, {Id: 5, At: 4}, {Id: 9, At: 1}, {Id: 9, At: 3}}) {
		t.Errorf("an stands at %v", l)
	}
	if l := some().Find("bb"); len(l) != 0 {
		t.Errorf("bb stands at %v", l)
	}
}

func TestScores(t *testing.T) {
	for pattern, want := range map[string][]score{"a": {{2, 1}, {5, 3}, {9, 3}}, "ana": {{5, 1}, {9, 2}}, "d": {{5, 1}}, "x": nil} {
		if l := some().scores(pattern); !slices.Equal(l, want) {
			t.Errorf("the scores of %q are %v, want %v", pattern, l, want)
		}
	}
}

// TestTopHasNoMoreThanAskedFor: also not in its spare room.
func TestTopHasNoMoreThanAskedFor(t *testing.T) {
	for n, want := range map[int][]int{-1: {}, 0: {}, 1: {5}, 2: {5, 9}, 3: {5, 9, 2}, 4: {5, 9, 2}} {
		l := some().Top("a", n)
		if !slices.Equal(l, want) {
			t.Errorf("top %d is %v, want %v", n, l, want)
		}
		for _, id := range l[len(l):cap(l)] {
			if id != 0 {
				t.Errorf("behind top %d stands %d", n, id)
			}
		}
	}
}

func TestReachOfSomeTexts(t *testing.T) {
	tables := []parts.Table{parts.Of("banana"), parts.Of(""), parts.Of("ban"), parts.Of("xb")}
	for i, want := range []int{6, 3, 1, 0} {
		if n := reach(tables, "banana", i+1); n != want {
			t.Errorf("%d texts have %d bytes of banana, want %d", i+1, n, want)
		}
	}
}

func TestIsWider(t *testing.T) {
	for _, c := range []struct {
		part, other string
		want        bool
	}{
		{"", "", false}, {"a", "", true}, {"", "a", false}, {"b", "a", false}, {"a", "b", true}, {"a", "a", false},
		{"zz", "a", true}, {"a", "zz", false}, {"\x7f", "\x80", true}, {"\xff", "\x00", false},
	} {
		if isWider(c.part, c.other) != c.want {
			t.Errorf("%q is told rather than %q: %v, want %v", c.part, c.other, !c.want, c.want)
		}
	}
}
