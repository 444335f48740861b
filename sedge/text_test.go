package sedge_test

import (
	"slices"
	"strings"
	"testing"

	"sedge/api"
	"sedge/sedge"
)

// checkOrder holds Sort by each way, and Common, against what comparing the ends one by one says.
func checkOrder(t *testing.T, text string) {
	t.Helper()
	want := sortedEnds(text)
	for how := range api.Ways {
		if l, e := sedge.Sort(text, how); !slices.Equal(l, want) || e != api.OK {
			t.Fatalf("P3: Sort of %.60q (%d bytes) by way %d = %v, %d, want %v", text, len(text), how, l, e, want)
		}
	}
	common := comparedEnds(text)
	if l, e := sedge.Common(text); !slices.Equal(l, common) || e != api.OK {
		t.Fatalf("P3: Common of %.60q (%d bytes) = %v, %d, want %v", text, len(text), l, e, common)
	}
}

func TestP3Banana(t *testing.T) {
	for how := range api.Ways {
		if l, e := sedge.Sort("banana", how); !slices.Equal(l, []int{5, 3, 1, 0, 4, 2}) || e != api.OK {
			t.Errorf("P3: Sort of banana by way %d = %v, %d", how, l, e)
		}
	}
	if l, e := sedge.Common("banana"); !slices.Equal(l, []int{0, 1, 3, 0, 0, 2}) || e != api.OK {
		t.Errorf("P3: Common of banana = %v, %d", l, e)
	}
}

func TestP3NoBytesAndOne(t *testing.T) {
	for how := range api.Ways {
		if l, e := sedge.Sort("", how); len(l) != 0 || e != api.OK {
			t.Errorf("P3: Sort of no bytes by way %d = %v, %d", how, l, e)
		}
		if l, e := sedge.Sort("\x00", how); !slices.Equal(l, []int{0}) || e != api.OK {
			t.Errorf("P3: Sort of one byte by way %d = %v, %d", how, l, e)
		}
	}
	if l, e := sedge.Common(""); len(l) != 0 || e != api.OK {
		t.Errorf("P3: Common of no bytes = %v, %d", l, e)
	}
	if l, e := sedge.Common("\xff"); !slices.Equal(l, []int{0}) || e != api.OK {
		t.Errorf("P3: Common of one byte = %v, %d", l, e)
	}
}

func TestP3OneByteOverAndOver(t *testing.T) {
	for _, n := range []int{2, 3, 999, 1000} {
		for how := range api.Ways {
			l, e := sedge.Sort(over("a", n), how)
			if len(l) != n || e != api.OK {
				t.Fatalf("P3: Sort of %d a by way %d: %d places, %d", n, how, len(l), e)
			}
			for i, p := range l {
				if p != n-1-i {
					t.Fatalf("P3: Sort of %d a by way %d: place %d is %d", n, how, i, p)
				}
			}
		}
		l, e := sedge.Common(over("a", n))
		if len(l) != n || e != api.OK {
			t.Fatalf("P3: Common of %d a: %d numbers, %d", n, len(l), e)
		}
		for i, c := range l {
			if c != i {
				t.Fatalf("P3: Common of %d a: number %d is %d", n, i, c)
			}
		}
	}
}

func TestP3ManyTexts(t *testing.T) {
	for _, text := range append(shortTexts(), longTexts()...) {
		checkOrder(t, text)
	}
	for n := range 100 {
		checkOrder(t, over("a", n))
		checkOrder(t, over("\xff\x00", n))
		checkOrder(t, over("abaab", n))
		checkOrder(t, drawn(int64(n), n, 2))
		checkOrder(t, drawn(int64(n), n, 3))
		checkOrder(t, drawn(int64(n), n, 256))
	}
}

func TestP3EveryShortText(t *testing.T) {
	eachText("\x00\xff", 11, func(text string) { checkOrder(t, text) })
	eachText("abc", 7, func(text string) { checkOrder(t, text) })
	eachText("abcd", 5, func(text string) { checkOrder(t, text) })
}

func TestP3TheMostBytes(t *testing.T) {
	for _, piece := range []string{"a", "ab", "\x00", "the cat sat on the mat"} {
		checkOrder(t, over(piece, 1000))
		for _, n := range []int{1001, 2000} {
			for how := range api.Ways {
				if l, e := sedge.Sort(over(piece, n), how); len(l) != 0 || e != api.ErrLong {
					t.Errorf("P3: Sort of %d bytes by way %d = %v, %d, want ErrLong", n, how, l, e)
				}
			}
			if l, e := sedge.Common(over(piece, n)); len(l) != 0 || e != api.ErrLong {
				t.Errorf("P3: Common of %d bytes = %v, %d, want ErrLong", n, l, e)
			}
		}
	}
}

func TestP3NoSuchWay(t *testing.T) {
	for _, how := range []int{leastInt, -2, -1, 3, 4, 256, 1 << 32, greatestInt} {
		for _, n := range []int{0, 1, 6, 1000, 1001} {
			if l, e := sedge.Sort(over("banana", n), how); len(l) != 0 || e != api.ErrHow {
				t.Errorf("P3: Sort of %d bytes by way %d = %v, %d, want ErrHow", n, how, l, e)
			}
		}
	}
}

// checkNone asks for parts that there are not.
func checkNone(t *testing.T, text string, count int) {
	t.Helper()
	for _, n := range []int{leastInt, -count - 1, -1, count, count + 1, greatestInt} {
		if p, e := sedge.Part(text, n); p != "" || e != api.ErrNone {
			t.Fatalf("P4: Part of %.60q, %d = %q, %d, want ErrNone", text, n, p, e)
		}
	}
}

func TestP4Banana(t *testing.T) {
	if n, e := sedge.Parts("banana"); n != 15 || e != api.OK {
		t.Errorf("P4: Parts of banana = %d, %d", n, e)
	}
	want := []string{"a", "an", "ana", "anan", "anana", "b", "ba", "ban", "bana", "banan", "banana", "n", "na", "nan", "nana"}
	for n, w := range want {
		if p, e := sedge.Part("banana", n); p != w || e != api.OK {
			t.Errorf("P4: Part of banana, %d = %q, %d, want %q", n, p, e, w)
		}
	}
	checkNone(t, "banana", 15)
}

// checkParts holds Parts and Part against all parts, written out.
func checkParts(t *testing.T, text string) {
	t.Helper()
	want := sortedParts(text)
	if n, e := sedge.Parts(text); n != len(want) || e != api.OK {
		t.Fatalf("P4: Parts of %q = %d, %d, want %d", text, n, e, len(want))
	}
	for n, w := range want {
		if p, e := sedge.Part(text, n); p != w || e != api.OK {
			t.Fatalf("P4: Part of %q, %d = %q, %d, want %q", text, n, p, e, w)
		}
	}
	checkNone(t, text, len(want))
}

func TestP4EveryPartOfShortTexts(t *testing.T) {
	for _, text := range shortTexts() {
		checkParts(t, text)
	}
	eachText("ab", 7, func(text string) { checkParts(t, text) })
	eachText("\x00a\xff", 4, func(text string) { checkParts(t, text) })
}

func TestP4NoBytesHaveNoParts(t *testing.T) {
	if n, e := sedge.Parts(""); n != 0 || e != api.OK {
		t.Errorf("P4: Parts of no bytes = %d, %d", n, e)
	}
	for _, n := range extremeNumbers() {
		if p, e := sedge.Part("", n); p != "" || e != api.ErrNone {
			t.Errorf("P4: Part of no bytes, %d = %q, %d, want ErrNone", n, p, e)
		}
	}
}

// TestP4TheMostBytes: of 1000 bytes ab, over and over, the parts that begin with a are as many as there are lengths, and so are those that begin with b, but for the longest.
func TestP4TheMostBytes(t *testing.T) {
	ones, twos := over("a", 1000), over("ab", 1000)
	if n, e := sedge.Parts(ones); n != 1000 || e != api.OK {
		t.Fatalf("P4: Parts of 1000 a = %d, %d", n, e)
	}
	if n, e := sedge.Parts(twos); n != 1999 || e != api.OK {
		t.Fatalf("P4: Parts of 1000 bytes ab = %d, %d", n, e)
	}
	for _, n := range []int{0, 1, 499, 998, 999} {
		if p, e := sedge.Part(ones, n); p != ones[:n+1] || e != api.OK {
			t.Errorf("P4: Part of 1000 a, %d: %d bytes, %d", n, len(p), e)
		}
		if p, e := sedge.Part(twos, n); p != twos[:n+1] || e != api.OK {
			t.Errorf("P4: Part of 1000 bytes ab, %d: %d bytes, %d", n, len(p), e)
		}
	}
	for _, n := range []int{1000, 1001, 1998} {
		if p, e := sedge.Part(twos, n); p != twos[1:n-998] || e != api.OK {
			t.Errorf("P4: Part of 1000 bytes ab, %d: %d bytes, %d", n, len(p), e)
		}
	}
	checkNone(t, ones, 1000)
	checkNone(t, twos, 1999)
}

// TestP4LongTexts: the parts are counted length by length; the first and the last one, and some between, rise.
func TestP4LongTexts(t *testing.T) {
	for _, text := range longTexts() {
		want := 0
		for size := 1; size <= len(text); size++ {
			seen := map[string]struct{}{}
			for from := 0; from+size <= len(text); from++ {
				seen[text[from:from+size]] = struct{}{}
			}
			want += len(seen)
		}
		if n, e := sedge.Parts(text); n != want || e != api.OK {
			t.Fatalf("P4: Parts of %.60q (%d bytes) = %d, %d, want %d", text, len(text), n, e, want)
		}
		checkEdges(t, text, want)
		checkNone(t, text, want)
	}
}

// checkEdges holds the first part, the last one and a stretch of them against what can be said of them without the others.
func checkEdges(t *testing.T, text string, count int) {
	t.Helper()
	order := sortedEnds(text)
	first, last := text[order[0]:order[0]+1], text[order[len(order)-1]:]
	if p, e := sedge.Part(text, 0); p != first || e != api.OK {
		t.Fatalf("P4: Part of %.60q, 0 = %.60q, %d", text, p, e)
	}
	if p, e := sedge.Part(text, count-1); p != last || e != api.OK {
		t.Fatalf("P4: Part of %.60q, the last one = %.60q, %d", text, p, e)
	}
	ahead := first
	for n := 1; n < count; n += 1 + count/50 {
		p, e := sedge.Part(text, n)
		if p <= ahead || !strings.Contains(text, p) || e != api.OK {
			t.Fatalf("P4: Part of %.60q, %d = %.60q, %d, behind %.60q", text, n, p, e, ahead)
		}
		ahead = p
	}
}

func TestP4TooLong(t *testing.T) {
	for _, n := range []int{1001, 5000} {
		if c, e := sedge.Parts(over("ab", n)); c != 0 || e != api.ErrLong {
			t.Errorf("P4: Parts of %d bytes = %d, %d, want ErrLong", n, c, e)
		}
		for _, number := range []int{leastInt, -1, 0, 1, greatestInt} {
			if p, e := sedge.Part(over("ab", n), number); p != "" || e != api.ErrLong {
				t.Errorf("P4: Part of %d bytes, %d = %q, %d, want ErrLong", n, number, p, e)
			}
		}
	}
}

// TestP10TheWaysComeToTheSame: held against each other alone, whatever the order is.
func TestP10TheWaysComeToTheSame(t *testing.T) {
	check := func(text string) {
		first, e := sedge.Sort(text, api.Doubling)
		if len(first) != len(text) || e != api.OK {
			t.Fatalf("P10: Sort of %.60q (%d bytes): %d places, %d", text, len(text), len(first), e)
		}
		for _, how := range []int{api.Inducing, api.Thirds} {
			if other, e := sedge.Sort(text, how); !slices.Equal(other, first) || e != api.OK {
				t.Fatalf("P10: Sort of %.60q (%d bytes) by way %d = %v, %d, but by Doubling %v", text, len(text), how, other, e, first)
			}
		}
	}
	for _, text := range slices.Concat(shortTexts(), longTexts()) {
		check(text)
	}
	eachText("abc", 6, check)
	for n := 0; n <= 1000; n += 9 {
		check(drawn(int64(n), n, 1+n%256))
		check(over(drawn(int64(n), 1+n%40, 2), n))
	}
}
