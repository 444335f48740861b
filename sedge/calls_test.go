package sedge_test

import (
	"slices"
	"testing"
	"unsafe"

	"sedge/api"
	"sedge/sedge"
)

func extremeNumbers() []int {
	return []int{leastInt, leastInt + 1, -1001, -1, 0, 1, 2, 3, 4, 255, 256, 999, 1000, 1001, greatestInt - 1, greatestInt}
}

func extremeTexts() []string {
	return []string{
		"", "\x00", "\xff", "\x00\xff", "a", "banana", "\xc3\x28", allBytes(), falling(),
		over("\x00", 1000), over("\xff", 1000), over("\x00", 1001), over("\xff", 1001), over("ab", 100000),
	}
}

// callAll makes every call that takes a text, a number or both.
func callAll(text, other string, n int) {
	sedge.Sort(text, n)
	sedge.Common(text)
	sedge.Parts(text)
	sedge.Part(text, n)
	sedge.Find(text, other)
	sedge.Shared(text, other)
	sedge.Turn(text)
	sedge.Unturn(text, n)
	sedge.Factors(text)
	sedge.Join([]api.Factor{{From: n, Len: n, Byte: byte(n)}})
	s := sedge.NewShelf()
	s.Put(n, text)
	s.Find(other)
	s.Top(other, n)
	s.Wide(n)
	s.Drop(n)
}

func TestP1NoCallPanics(t *testing.T) {
	defer func() {
		if r := recover(); r != nil {
			t.Fatalf("P1: a call panicked: %v", r)
		}
	}()
	texts := extremeTexts()
	for i, text := range texts {
		for _, n := range extremeNumbers() {
			callAll(text, texts[(i+1)%len(texts)], n)
		}
		for _, other := range texts {
			sedge.Find(text, other)
			sedge.Shared(text, other)
		}
	}
}

func TestP1JoinNeverPanics(t *testing.T) {
	defer func() {
		if r := recover(); r != nil {
			t.Fatalf("P1: Join panicked: %v", r)
		}
	}()
	sedge.Join(nil)
	sedge.Join([]api.Factor{})
	sedge.Join(make([]api.Factor, 1001))
	sedge.Join(make([]api.Factor, 100000))
	for _, from := range extremeNumbers() {
		for _, size := range extremeNumbers() {
			for _, b := range []byte{0, 255} {
				f := api.Factor{From: from, Len: size, Byte: b}
				sedge.Join([]api.Factor{f})
				sedge.Join([]api.Factor{{}, f, f})
				sedge.Join([]api.Factor{{Byte: 255}, taken(0, 999), f})
				sedge.Join(slices.Repeat([]api.Factor{f}, 1000))
				sedge.Join(slices.Repeat([]api.Factor{f}, 1001))
			}
		}
	}
}

func TestP1TheFirstNamedErrorAndNothingBesides(t *testing.T) {
	long := over("ab", 1001)
	for _, how := range []int{leastInt, -1, 3, 4, greatestInt} {
		for _, text := range []string{"", "banana", long} {
			if l, e := sedge.Sort(text, how); len(l) != 0 || e != api.ErrHow {
				t.Errorf("P1: Sort of %d bytes by way %d = %v, %d, want nothing, ErrHow", len(text), how, l, e)
			}
		}
	}
	for _, n := range extremeNumbers() {
		if p, e := sedge.Part(long, n); p != "" || e != api.ErrLong {
			t.Errorf("P1: Part of 1001 bytes, %d = %q, %d, want nothing, ErrLong", n, p, e)
		}
	}
	for how := range api.Ways {
		if l, e := sedge.Sort(long, how); len(l) != 0 || e != api.ErrLong {
			t.Errorf("P1: Sort of 1001 bytes by way %d = %v, %d, want nothing, ErrLong", how, l, e)
		}
	}
	if l, e := sedge.Common(long); len(l) != 0 || e != api.ErrLong {
		t.Errorf("P1: Common of 1001 bytes = %v, %d, want nothing, ErrLong", l, e)
	}
	if n, e := sedge.Parts(long); n != 0 || e != api.ErrLong {
		t.Errorf("P1: Parts of 1001 bytes = %d, %d, want 0, ErrLong", n, e)
	}
	if p, e := sedge.Part("banana", 15); p != "" || e != api.ErrNone {
		t.Errorf("P1: Part of banana, 15 = %q, %d, want nothing, ErrNone", p, e)
	}
}

func TestP1TheFirstNamedErrorOfTwoTexts(t *testing.T) {
	long := over("ab", 1001)
	for _, c := range []struct {
		text, other string
		find        api.Errno
		shared      api.Errno
	}{
		{long, "", api.ErrLong, api.ErrLong}, {long, "ab", api.ErrLong, api.ErrLong}, {long, long, api.ErrLong, api.ErrLong},
		{"", long, api.ErrLong, api.ErrLong}, {"ab", long, api.ErrLong, api.ErrLong},
		{"", "", api.ErrEmpty, api.OK}, {long[:1000], "", api.ErrEmpty, api.OK},
	} {
		if l, e := sedge.Find(c.text, c.other); len(l) != 0 || e != c.find {
			t.Errorf("P1: Find of %d bytes in %d = %v, %d, want nothing, %d", len(c.other), len(c.text), l, e, c.find)
		}
		if s, e := sedge.Shared(c.text, c.other); s != (api.Span{}) || e != c.shared {
			t.Errorf("P1: Shared of %d bytes and %d = %+v, %d, want nothing, %d", len(c.text), len(c.other), s, e, c.shared)
		}
	}
}

func TestP1TheFirstNamedErrorOfTurning(t *testing.T) {
	long := over("ab", 1001)
	if last, row, e := sedge.Turn(long); last != "" || row != 0 || e != api.ErrLong {
		t.Errorf("P1: Turn of 1001 bytes = %.60q, %d, %d, want nothing, ErrLong", last, row, e)
	}
	for _, row := range extremeNumbers() {
		if text, e := sedge.Unturn(long, row); text != "" || e != api.ErrLong {
			t.Errorf("P1: Unturn of 1001 bytes, %d = %.60q, %d, want nothing, ErrLong", row, text, e)
		}
		if text, e := sedge.Unturn("aaa", row); row != 3 && (text != "" || e != api.ErrRow) {
			t.Errorf("P1: Unturn of aaa, %d = %q, %d, want nothing, ErrRow", row, text, e)
		}
	}
}

func TestP1TheFirstNamedErrorOfPieces(t *testing.T) {
	if l, e := sedge.Factors(over("ab", 1001)); len(l) != 0 || e != api.ErrLong {
		t.Errorf("P1: Factors of 1001 bytes = %v, %d, want nothing, ErrLong", l, e)
	}
	wrong := api.Factor{From: -1, Len: greatestInt, Byte: 1}
	for _, c := range []struct {
		list []api.Factor
		want api.Errno
		at   int
	}{
		{slices.Repeat([]api.Factor{wrong}, 1001), api.ErrMany, 0},
		{behind(single(over("a", 1000)), wrong), api.ErrMany, 0},
		{[]api.Factor{wrong}, api.ErrFactor, 0},
		{behind(single("abc"), wrong, wrong), api.ErrFactor, 3},
		{behind(single("abc"), taken(3, greatestInt)), api.ErrFactor, 3},
		{behind(single("abc"), taken(2, greatestInt), wrong), api.ErrLong, 3},
	} {
		if text, e, at := sedge.Join(c.list); text != "" || e != c.want || at != c.at {
			t.Errorf("P1: Join of %d factors = %.60q, %d, %d, want nothing, %d, %d", len(c.list), text, e, at, c.want, c.at)
		}
	}
	for _, list := range [][]api.Factor{nil, single("abc"), single(over("a", 1000)), behind(single("a"), taken(0, 999))} {
		if _, e, at := sedge.Join(list); e != api.OK || at != 0 {
			t.Errorf("P1: Join of %d factors: %d, %d, want OK, 0", len(list), e, at)
		}
	}
}

// answers is all that the calls of one text tell, each list a copy.
type answers struct {
	sorted [api.Ways][]int
	common []int
	count  int
	part   string
	places [][]int
	shared []api.Span
	turned turned
	back   string
	pieces []api.Factor
	joined string
}

func answersOf(text string) answers {
	var a answers
	for how := range api.Ways {
		l, _ := sedge.Sort(text, how)
		a.sorted[how] = slices.Clone(l)
	}
	l, _ := sedge.Common(text)
	a.common = slices.Clone(l)
	a.count, _ = sedge.Parts(text)
	a.part, _ = sedge.Part(text, a.count/2)
	for _, other := range patternsIn(text) {
		l, _ := sedge.Find(text, other)
		a.places = append(a.places, slices.Clone(l))
		s, _ := sedge.Shared(other, text)
		a.shared = append(a.shared, s)
	}
	a.turned.last, a.turned.row, _ = sedge.Turn(text)
	a.back, _ = sedge.Unturn(text, len(text))
	pieces, _ := sedge.Factors(text)
	a.pieces = slices.Clone(pieces)
	a.joined, _, _ = sedge.Join(pieces)
	return a
}

// patternsIn is some patterns that stand in a text once, often or nowhere.
func patternsIn(text string) []string {
	return []string{"a", "\x00", text[:min(len(text), 1)], text[len(text)/2:], text[len(text)*2/3:] + "!"}
}

func (a answers) equal(b answers) bool {
	for how := range api.Ways {
		if !slices.Equal(a.sorted[how], b.sorted[how]) {
			return false
		}
	}
	return slices.Equal(a.common, b.common) && a.count == b.count && a.part == b.part &&
		slices.EqualFunc(a.places, b.places, slices.Equal) && slices.Equal(a.shared, b.shared) &&
		a.turned == b.turned && a.back == b.back && slices.Equal(a.pieces, b.pieces) && a.joined == b.joined
}

func TestP2TheSameCallAgainBehindOthers(t *testing.T) {
	texts := append(shortTexts(), longTexts()...)
	var first []answers
	for _, text := range texts {
		first = append(first, answersOf(text))
	}
	for i := len(texts) - 1; i >= 0; i-- {
		callAll(over("x", 1001), "", -1)
		if again := answersOf(texts[i]); !again.equal(first[i]) {
			t.Errorf("P2: %.60q told %v, then %v", texts[i], first[i], again)
		}
	}
}

// spoil writes over a list and over all its spare room, also by appending.
func spoil(l []int) {
	whole := l[:cap(l)]
	for i := range whole {
		whole[i] = -7
	}
	for range 3 {
		l = append(l, -9)
	}
}

// lists is each list that the calls of one text give out, as it came out.
func lists(text string) [][]int {
	var all [][]int
	for how := range api.Ways {
		l, _ := sedge.Sort(text, how)
		all = append(all, l)
	}
	l, _ := sedge.Common(text)
	all = append(all, l)
	for _, pattern := range patternsIn(text) {
		l, _ := sedge.Find(text, pattern)
		all = append(all, l)
	}
	return all
}

func TestP2AListIsTheCallers(t *testing.T) {
	for _, text := range append(shortTexts(), longTexts()...) {
		want := answersOf(text)
		kept := append(lists(text), lists(text)...)
		var before [][]int
		for _, l := range kept {
			before = append(before, slices.Clone(l))
		}
		for i := range kept {
			spoil(kept[i])
			for k := i + 1; k < len(kept); k++ {
				if !slices.Equal(kept[k], before[k]) {
					t.Fatalf("P2: %.60q: writing over list %d changed list %d", text, i, k)
				}
			}
		}
		if again := answersOf(text); !again.equal(want) {
			t.Fatalf("P2: %.60q: writing over the lists changed later answers: %v, were %v", text, again, want)
		}
	}
}

func TestP2TheFactorsAreTheCallers(t *testing.T) {
	for _, text := range append(shortTexts(), longTexts()...) {
		first, _ := sedge.Factors(text)
		second, _ := sedge.Factors(text)
		want := slices.Clone(second)
		whole := first[:cap(first)]
		for i := range whole {
			whole[i] = api.Factor{From: -7, Len: -7, Byte: 7}
		}
		if !slices.Equal(second, want) {
			t.Fatalf("P2: %.60q: writing over one list of factors changed another", text)
		}
		if again, _ := sedge.Factors(text); !slices.Equal(again, want) {
			t.Fatalf("P2: %.60q: writing over a list of factors changed a later one: %v, was %v", text, again, want)
		}
	}
}

// roomy is lists that Join takes or refuses, each one a piece of a longer list.
func roomy() [][]api.Factor {
	var all [][]api.Factor
	for _, list := range [][]api.Factor{
		nil, single("abc"), behind(single("ab"), taken(0, 5)), behind(single("a"), taken(0, 999)), single(over("ab", 1000)),
		behind(single("a"), taken(1, 2)), behind(single("a"), taken(0, 1000)), behind(single("ab"), api.Factor{Len: -1}), single(over("ab", 1001)),
	} {
		more := slices.Repeat([]api.Factor{{From: 3, Len: 3, Byte: 3}}, 50)
		all = append(all, behind(list, more...)[:len(list)])
	}
	return all
}

func TestP2JoinWritesNeitherIntoAListNorBehindIt(t *testing.T) {
	for _, list := range roomy() {
		whole := slices.Clone(list[:cap(list)])
		text, e, at := sedge.Join(list)
		if !slices.Equal(list[:cap(list)], whole) {
			t.Errorf("P2: Join wrote into a list of %d factors or behind it", len(list))
		}
		if again, f, place := sedge.Join(slices.Clip(slices.Clone(list))); again != text || f != e || place != at {
			t.Errorf("P2: Join of %d factors = %.60q, %d, %d with room behind them, %.60q, %d, %d without", len(list), text, e, at, again, f, place)
		}
	}
}

// TestP2JoinKeepsNoList: what was joined stays, though the list that it was made of is written over.
func TestP2JoinKeepsNoList(t *testing.T) {
	list := behind(single("ban"), taken(1, 3))
	text, _, _ := sedge.Join(list)
	copy(list, single("xyzw"))
	if other, e, _ := sedge.Join(list); text != "banana" || other != "xyzw" || e != api.OK {
		t.Errorf("P2: Join = %q, then, of another list in its memory, %q, %d", text, other, e)
	}
}

// addressed is where the first byte of a text stands, as a number.
func addressed(text string) uintptr {
	return uintptr(unsafe.Pointer(unsafe.StringData(text)))
}

// within is whether one text's bytes stand in the memory of another's.
func within(inner, outer string) bool {
	at := addressed(inner)
	return at >= addressed(outer) && at < addressed(outer)+uintptr(len(outer))
}

func TestP2APartIsNewMemory(t *testing.T) {
	text := over("banana", 1000)
	count, _ := sedge.Parts(text)
	for n := 0; n < count; n += 97 {
		if part, _ := sedge.Part(text, n); within(part, text) {
			t.Fatalf("P2: Part %d shares memory with the text", n)
		}
	}
}

// TestP2WhatIsTurnedIsNewMemory: of one byte over and over, the turned text is the text again, but not its memory.
func TestP2WhatIsTurnedIsNewMemory(t *testing.T) {
	for _, text := range []string{over("a", 1000), over("banana", 1000)} {
		last, row, _ := sedge.Turn(text)
		if within(last, text) {
			t.Errorf("P2: Turn of %.60q shares memory with the text", text)
		}
		if back, _ := sedge.Unturn(last, row); within(back, last) {
			t.Errorf("P2: Unturn of what Turn makes of %.60q shares memory with it", text)
		}
	}
}
