package sedge_test

import (
	"slices"
	"testing"

	"sedge/api"
	"sedge/sedge"
)

func checkFactors(t *testing.T, text string, want []api.Factor) {
	t.Helper()
	if l, e := sedge.Factors(text); !slices.Equal(l, want) || e != api.OK {
		t.Fatalf("P7: Factors of %.60q (%d bytes) = %v, %d, want %v", text, len(text), l, e, want)
	}
}

func checkJoin(t *testing.T, list []api.Factor, want string) {
	t.Helper()
	if text, e, at := sedge.Join(list); text != want || e != api.OK || at != 0 {
		t.Fatalf("P7: Join of %v = %.60q (%d bytes), %d, %d, want %.60q (%d bytes)", list, text, len(text), e, at, want, len(want))
	}
}

func checkNoJoin(t *testing.T, list []api.Factor, want api.Errno, place int) {
	t.Helper()
	if text, e, at := sedge.Join(list); text != "" || e != want || at != place {
		t.Fatalf("P7: Join of %d factors, %v, = %.60q, %d, %d, want nothing, %d, %d", len(list), list, text, e, at, want, place)
	}
}

func TestP7FactorsByHand(t *testing.T) {
	for text, want := range map[string][]api.Factor{
		"":             nil,
		"a":            single("a"),
		"\x00":         single("\x00"),
		"\xff":         single("\xff"),
		"banana":       behind(single("ban"), taken(1, 3)),
		"aa":           behind(single("a"), taken(0, 1)),
		"aaaa":         behind(single("a"), taken(0, 3)),
		"\x00\x00\x00": behind(single("\x00"), taken(0, 2)),
		"\xff\xff":     behind(single("\xff"), taken(0, 1)),
		"abcde":        single("abcde"),
		"edcba":        single("edcba"),
		"aba":          behind(single("ab"), taken(0, 1)),
		"abababa":      behind(single("ab"), taken(0, 5)),
		"aab":          behind(single("a"), taken(0, 1), single("b")[0]),
		"abbabb":       behind(single("ab"), taken(1, 1), taken(0, 3)),
		"abcabdabcd":   behind(single("abc"), taken(0, 2), single("d")[0], taken(0, 3), taken(5, 1)),
		"mississippi":  behind(single("mis"), taken(2, 1), taken(1, 4), single("p")[0], taken(8, 1), taken(1, 1)),
		"abracadabra":  behind(single("abr"), taken(0, 1), single("c")[0], taken(0, 1), single("d")[0], taken(0, 4)),
		"a\x00a\x00b":  behind(single("a\x00"), taken(0, 2), single("b")[0]),
	} {
		checkFactors(t, text, want)
		checkJoin(t, want, text)
	}
}

// TestP7FromTheFirstOfSeveralPlaces: the longest part ahead stands at several places; the ends that begin with it come now by rising, now by falling places in their order.
func TestP7FromTheFirstOfSeveralPlaces(t *testing.T) {
	for text, want := range map[string]api.Factor{
		"xabcyabdzabeab":    taken(1, 2),
		"xabzyabdwabcab":    taken(1, 2),
		"xabcyab!zab?ab":    taken(1, 2),
		"xabbyabczabaab":    taken(1, 2),
		"abxabyabzab":       taken(0, 2),
		"abzabyabxab":       taken(0, 2),
		"aabaacaadaa":       taken(0, 2),
		"xa!ya?za.wa,va":    taken(1, 1),
		"xa.ya?za!wa,va":    taken(1, 1),
		"ab\xffab\x00abaab": taken(0, 2),
	} {
		l, e := sedge.Factors(text)
		if e != api.OK || len(l) == 0 || l[len(l)-1] != want {
			t.Errorf("P7: Factors of %q = %v, %d, want %v at the end", text, l, e, want)
		}
		checkFactors(t, text, comparedFactors(text))
	}
}

func TestP7OneByteOverAndOver(t *testing.T) {
	for _, piece := range []string{"a", "\x00", "\xff"} {
		for _, n := range []int{2, 3, 4, 5, 255, 256, 257, 999, 1000} {
			checkFactors(t, over(piece, n), behind(single(piece), taken(0, n-1)))
		}
	}
	for _, n := range []int{5, 999, 1000} {
		checkFactors(t, over("ab", n), behind(single("ab"), taken(0, n-2)))
		checkFactors(t, over("abc", n), behind(single("abc"), taken(0, n-3)))
	}
}

func TestP7NoByteTwice(t *testing.T) {
	for _, text := range []string{allBytes(), falling(), allBytes()[:255], falling()[1:], "zyxabc"} {
		checkFactors(t, text, single(text))
		checkJoin(t, single(text), text)
	}
	checkFactors(t, allBytes()+falling(), behind(single(allBytes()), comparedFactors(allBytes() + falling())[256:]...))
	checkFactors(t, over(allBytes(), 1000), behind(single(allBytes()), taken(0, 744)))
}

func TestP7FactorsOfManyTexts(t *testing.T) {
	for _, text := range slices.Concat(shortTexts(), longTexts()) {
		checkFactors(t, text, comparedFactors(text))
	}
	check := func(text string) { checkFactors(t, text, comparedFactors(text)) }
	eachText("ab", 10, check)
	eachText("\x00a\xff", 6, check)
	for n := range 150 {
		check(drawn(int64(n), n, 1+n%5))
		check(drawn(int64(n), n, 256))
	}
}

func TestP7FactorsTooLong(t *testing.T) {
	for _, piece := range []string{"a", "ab", "\x00", allBytes()} {
		if _, e := sedge.Factors(over(piece, 1000)); e != api.OK {
			t.Errorf("P7: Factors of 1000 bytes: %d, want OK", e)
		}
		for _, n := range []int{1001, 5000} {
			if l, e := sedge.Factors(over(piece, n)); len(l) != 0 || e != api.ErrLong {
				t.Errorf("P7: Factors of %d bytes = %v, %d, want nothing, ErrLong", n, l, e)
			}
		}
	}
}

func TestP7JoinByHand(t *testing.T) {
	ab := single("ab")
	for _, c := range []struct {
		list []api.Factor
		want string
	}{
		{nil, ""},
		{[]api.Factor{}, ""},
		{[]api.Factor{{}}, "\x00"},
		{make([]api.Factor, 3), "\x00\x00\x00"},
		{single("\xff\x00"), "\xff\x00"},
		{behind(single("ban"), taken(1, 3)), "banana"},
		{behind(ab, taken(0, 1)), "aba"},
		{behind(ab, taken(1, 1)), "abb"},
		{behind(ab, taken(0, 2)), "abab"},
		{behind(ab, taken(0, 3)), "ababa"},
		{behind(ab, taken(1, 4)), "abbbbb"},
		{behind(ab, taken(0, 3), taken(4, 2), taken(1, 5)), "ababaaababaa"},
		{behind(single("abc"), taken(1, 7)), "abcbcbcbcb"},
		{behind(single("abc"), taken(1, 7), single("d")[0], taken(10, 2)), "abcbcbcbcbddd"},
		{behind(single("\x00"), taken(0, 2), single("\xff")[0], taken(2, 3)), "\x00\x00\x00\xff\x00\xff\x00"},
	} {
		checkJoin(t, c.list, c.want)
	}
}

// wrongFactors is each kind of a factor that may not stand behind some bytes.
func wrongFactors(have int) []api.Factor {
	list := []api.Factor{
		{Byte: 'a', From: 1}, {Byte: 'a', From: -1}, {From: 1}, {From: -1}, {From: leastInt}, {From: greatestInt, Byte: 255},
		{Len: -1}, {Len: leastInt}, {Len: -1, Byte: 'a'}, {From: -1, Len: -1}, {From: greatestInt, Len: leastInt, Byte: 1},
		{Len: 1, Byte: 'a'}, {Len: 1, Byte: 255}, {Len: 1, Byte: 1}, {Len: greatestInt, Byte: 'a'}, {Len: 1001, Byte: 'a'},
		{From: -1, Len: 1}, {From: leastInt, Len: 1}, {From: leastInt, Len: greatestInt}, {From: -1, Len: 1001},
		{From: have, Len: 1}, {From: have + 1, Len: 1}, {From: have, Len: greatestInt}, {From: greatestInt, Len: 1},
		{From: greatestInt, Len: greatestInt}, {From: 1 << 32, Len: 1}, {From: 1000, Len: 1},
	}
	if have > 0 {
		list = append(list, api.Factor{From: have - 1, Len: -1}, api.Factor{From: have - 1, Len: 1, Byte: 'a'})
	}
	return list
}

func TestP7WrongFactors(t *testing.T) {
	for _, first := range [][]api.Factor{
		nil, single("a"), single("\x00"), single("ab"), behind(single("ab"), taken(0, 2)), behind(single("a"), taken(0, 997)),
		behind(single("a"), taken(0, 999)), single(over("ab", 999)),
	} {
		text, _, _ := sedge.Join(first)
		for _, wrong := range wrongFactors(len(text)) {
			checkNoJoin(t, behind(first, wrong), api.ErrFactor, len(first))
			if len(first) < 900 {
				checkNoJoin(t, behind(behind(first, wrong), single("abc")...), api.ErrFactor, len(first))
				checkNoJoin(t, behind(first, wrong, taken(0, 5000)), api.ErrFactor, len(first))
				checkNoJoin(t, behind(first, wrong, wrong), api.ErrFactor, len(first))
			}
		}
	}
}

// TestP7EveryFactorBehindTwoBytes: at all numbers a factor is either wrong, too long or put behind.
func TestP7EveryFactorBehindTwoBytes(t *testing.T) {
	for _, from := range extremeNumbers() {
		for _, size := range append(extremeNumbers(), 997, 998) {
			for _, b := range []byte{0, 1, 'a', 255} {
				list := behind(single("ab"), api.Factor{From: from, Len: size, Byte: b})
				switch {
				case size == 0 && from == 0:
					checkJoin(t, list, "ab"+string([]byte{b}))
				case size <= 0 || b != 0 || from < 0 || from > 1:
					checkNoJoin(t, list, api.ErrFactor, 2)
				case size > 998:
					checkNoJoin(t, list, api.ErrLong, 2)
				case from == 0:
					checkJoin(t, list, over("ab", 2+size))
				default:
					checkJoin(t, list, "a"+over("b", 1+size))
				}
			}
		}
	}
}

func TestP7ManyFactors(t *testing.T) {
	for _, text := range []string{over("a", 1000), over("\x00", 1000), over(allBytes(), 1000)} {
		checkJoin(t, single(text), text)
	}
	checkJoin(t, slices.Repeat([]api.Factor{{}}, 1000), over("\x00", 1000))
	checkJoin(t, behind(single("a"), slices.Repeat([]api.Factor{taken(0, 1)}, 999)...), over("a", 1000))
	for _, f := range append(wrongFactors(0), api.Factor{}, api.Factor{Byte: 'a'}, taken(0, 1), taken(0, 5000)) {
		for _, n := range []int{1001, 1002, 100000} {
			checkNoJoin(t, slices.Repeat([]api.Factor{f}, n), api.ErrMany, 0)
		}
	}
	checkNoJoin(t, single(over("ab", 1001)), api.ErrMany, 0)
}

func TestP7JoinTooLongInOneGreatPiece(t *testing.T) {
	a, ab := single("a"), single("ab")
	checkJoin(t, behind(a, taken(0, 999)), over("a", 1000))
	checkJoin(t, behind(ab, taken(0, 998)), over("ab", 1000))
	for _, n := range []int{1000, 1001, 1 << 31, 1 << 32, 1<<32 + 1, 1 << 62, greatestInt - 1, greatestInt} {
		checkNoJoin(t, behind(a, taken(0, n)), api.ErrLong, 1)
		checkNoJoin(t, behind(ab, taken(0, n)), api.ErrLong, 2)
		checkNoJoin(t, behind(ab, taken(1, n)), api.ErrLong, 2)
		checkNoJoin(t, behind(ab, taken(0, 500), taken(501, n)), api.ErrLong, 3)
	}
	checkNoJoin(t, behind(ab, taken(0, 999)), api.ErrLong, 2)
}

func TestP7JoinTooLongInManySmallPieces(t *testing.T) {
	twos := behind(single("ab"), slices.Repeat([]api.Factor{taken(0, 2)}, 499)...)
	checkJoin(t, twos, over("ab", 1000))
	checkNoJoin(t, behind(twos, taken(0, 1)), api.ErrLong, 501)
	checkNoJoin(t, behind(twos, taken(0, 2)), api.ErrLong, 501)
	checkNoJoin(t, behind(twos, taken(999, 1)), api.ErrLong, 501)
	checkNoJoin(t, behind(twos, api.Factor{}), api.ErrLong, 501)
	checkNoJoin(t, behind(twos, api.Factor{Byte: 'b'}), api.ErrLong, 501)
	checkNoJoin(t, behind(twos, slices.Repeat([]api.Factor{taken(0, 2)}, 499)...), api.ErrLong, 501)
	threes := behind(single("a"), slices.Repeat([]api.Factor{taken(0, 3)}, 333)...)
	checkJoin(t, threes, over("a", 1000))
	checkNoJoin(t, slices.Insert(slices.Clone(threes), 1, taken(0, 1)), api.ErrLong, 334)
	bytes := behind(single(over("a", 998)), taken(0, 3), single("a")[0])
	checkNoJoin(t, bytes, api.ErrLong, 998)
	checkNoJoin(t, behind(single(over("a", 999)), taken(0, 2)), api.ErrLong, 999)
}

func TestP7WrongAheadOfTooLongAndBehindIt(t *testing.T) {
	full := behind(single("a"), taken(0, 999))
	for _, wrong := range []api.Factor{{From: 1}, {Len: -1}, taken(-1, 1), taken(5000, 1), {Len: 1, Byte: 'a'}} {
		checkNoJoin(t, behind(single("a"), taken(0, 1000), wrong), api.ErrLong, 1)
		checkNoJoin(t, behind(single("a"), wrong, taken(0, 1000)), api.ErrFactor, 1)
		checkNoJoin(t, behind(full, api.Factor{Byte: 'b'}, wrong), api.ErrLong, 2)
		checkNoJoin(t, behind(full, wrong, api.Factor{Byte: 'b'}), api.ErrFactor, 2)
		checkNoJoin(t, behind(full, wrong), api.ErrFactor, 2)
	}
	// A piece that is both wrong and too long is wrong first, as P1 has it.
	for _, both := range []api.Factor{taken(1, 1000), taken(-1, greatestInt), taken(1, greatestInt), {Len: 1000, Byte: 1}} {
		checkNoJoin(t, behind(single("a"), both), api.ErrFactor, 1)
	}
	// No place of what stood there when the bytes were too many may be taken from.
	checkNoJoin(t, behind(single("a"), taken(0, 1000), taken(1000, 1)), api.ErrLong, 1)
	checkNoJoin(t, behind(full, taken(1000, 1)), api.ErrFactor, 2)
}

func TestP10JoinOfATextsFactors(t *testing.T) {
	check := func(text string) {
		l, e := sedge.Factors(text)
		if e != api.OK {
			t.Fatalf("P10: Factors of %.60q (%d bytes): %d", text, len(text), e)
		}
		if joined, e, at := sedge.Join(l); joined != text || e != api.OK || at != 0 {
			t.Fatalf("P10: Join of the factors of %.60q (%d bytes) = %.60q, %d, %d", text, len(text), joined, e, at)
		}
	}
	for _, text := range slices.Concat(shortTexts(), longTexts()) {
		check(text)
	}
	eachText("abc", 7, check)
	for n := 0; n <= 1000; n += 9 {
		check(drawn(int64(n), n, 1+n%256))
	}
}

func TestP10NoOtherPiecesAreFewer(t *testing.T) {
	check := func(text string) {
		if l, e := sedge.Factors(text); len(l) != fewestPieces(text) || e != api.OK {
			t.Fatalf("P10: Factors of %.60q (%d bytes) are %d, %d; it can be made of %d", text, len(text), len(l), e, fewestPieces(text))
		}
	}
	for _, text := range slices.Concat(shortTexts(), longTexts()) {
		check(text)
	}
	eachText("ab", 10, check)
	eachText("abc", 6, check)
	for n := range 120 {
		check(drawn(int64(n), n, 2+n%4))
	}
}

// eachList hands on every list of up to most factors, out of some that may be taken.
func eachList(from []api.Factor, most int, visit func(list []api.Factor)) {
	var grow func(list []api.Factor)
	grow = func(list []api.Factor) {
		visit(list)
		for i := 0; i < len(from) && len(list) < most; i++ {
			grow(behind(list, from[i]))
		}
	}
	grow(nil)
}

// TestP10NoListThatJoinTakesIsShorter: what any list makes, the text's own factors make with no more of them.
func TestP10NoListThatJoinTakesIsShorter(t *testing.T) {
	from := single("ab")
	for place := range 4 {
		for size := 1; size <= 4; size++ {
			from = append(from, taken(place, size))
		}
	}
	joined := 0
	eachList(from, 4, func(list []api.Factor) {
		text, e, _ := sedge.Join(list)
		if e != api.OK {
			return
		}
		joined++
		if l, _ := sedge.Factors(text); len(l) > len(list) {
			t.Fatalf("P10: Factors of %q = %v, but %v makes it too", text, l, list)
		}
	})
	if joined < 1000 {
		t.Errorf("P10: Join took only %d lists", joined)
	}
}
