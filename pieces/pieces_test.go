package pieces

import (
	"slices"
	"testing"

	"sedge/api"
	"sedge/parts"
)

func TestPieceAtEachPlace(t *testing.T) {
	table := parts.Of("banana")
	for place, want := range []api.Factor{
		{Byte: 'b'}, {Byte: 'a'}, {Byte: 'n'}, {From: 1, Len: 3}, {From: 2, Len: 2}, {From: 1, Len: 1},
	} {
		if f := piece(table, "banana", place); f != want {
			t.Errorf("the piece of banana at %d is %v, want %v", place, f, want)
		}
	}
}

func TestSize(t *testing.T) {
	for f, want := range map[api.Factor]int{{}: 1, {Byte: 'a'}: 1, {Len: 1}: 1, {Len: 2}: 2, {From: 5, Len: 999}: 999} {
		if n := size(f); n != want {
			t.Errorf("%v stands for %d bytes, want %d", f, n, want)
		}
	}
}

func TestFits(t *testing.T) {
	for _, c := range []struct {
		f    api.Factor
		have int
		want bool
	}{
		{api.Factor{}, 0, true}, {api.Factor{Byte: 255}, 0, true}, {api.Factor{Byte: 1}, 1000, true},
		{api.Factor{From: 1, Byte: 1}, 2, false}, {api.Factor{From: -1}, 2, false},
		{api.Factor{Len: 1}, 0, false}, {api.Factor{Len: 1}, 1, true}, {api.Factor{Len: 1, Byte: 1}, 1, false}, {api.Factor{Len: -1}, 1, false},
		{api.Factor{From: 1, Len: 1}, 1, false}, {api.Factor{From: 1, Len: 1}, 2, true}, {api.Factor{From: -1, Len: 1}, 2, false},
	} {
		if fits(c.f, c.have) != c.want {
			t.Errorf("%v behind %d bytes: %v, want %v", c.f, c.have, !c.want, c.want)
		}
	}
}

func TestAddReachesOverItself(t *testing.T) {
	for _, c := range []struct {
		f    api.Factor
		want string
	}{
		{api.Factor{Byte: 'd'}, "abcd"}, {api.Factor{}, "abc\x00"}, {api.Factor{Len: 2}, "abcab"}, {api.Factor{Len: 7}, "abcabcabca"},
		{api.Factor{From: 2, Len: 4}, "abccccc"}, {api.Factor{From: 1, Len: 3}, "abcbcb"},
	} {
		if got := string(add([]byte("abc"), c.f)); got != c.want {
			t.Errorf("abc and %v are %q, want %q", c.f, got, c.want)
		}
	}
}

func TestOfAndJoin(t *testing.T) {
	for _, text := range []string{"", "a", "\x00\x00", "banana", "abcabcabcabd", "mississippi"} {
		list := Of(text)
		if joined, e, at := Join(list); joined != text || e != api.OK || at != 0 {
			t.Errorf("%q in pieces, %v, together is %q, %d, %d", text, list, joined, e, at)
		}
	}
	if list := Of("aaaa"); !slices.Equal(list, []api.Factor{{Byte: 'a'}, {Len: 3}}) {
		t.Errorf("aaaa in pieces is %v", list)
	}
}
