package sedge_test

import (
	"slices"
	"testing"

	"sedge/api"
	"sedge/sedge"
)

func checkTurn(t *testing.T, text string, want turned) {
	t.Helper()
	if last, row, e := sedge.Turn(text); last != want.last || row != want.row || e != api.OK {
		t.Fatalf("P6: Turn of %.60q (%d bytes) = %.60q, %d, %d, want %.60q, %d", text, len(text), last, row, e, want.last, want.row)
	}
	if back, e := sedge.Unturn(want.last, want.row); back != text || e != api.OK {
		t.Fatalf("P6: Unturn of %.60q (%d bytes), %d = %.60q, %d, want %.60q", want.last, len(text), want.row, back, e, text)
	}
}

func checkNoRow(t *testing.T, last string, row int) {
	t.Helper()
	if text, e := sedge.Unturn(last, row); text != "" || e != api.ErrRow {
		t.Fatalf("P6: Unturn of %.60q (%d bytes), %d = %.60q, %d, want ErrRow", last, len(last), row, text, e)
	}
}

func TestP6ByHand(t *testing.T) {
	for text, want := range map[string]turned{
		"banana":           {"annbaa", 4},
		"":                 {"", 0},
		"a":                {"a", 1},
		"\x00":             {"\x00", 1},
		"\xff":             {"\xff", 1},
		"aa":               {"aa", 2},
		"ab":               {"ba", 1},
		"ba":               {"ab", 2},
		"\x00\x00":         {"\x00\x00", 2},
		"\xff\x00":         {"\x00\xff", 2},
		"\x00\xff":         {"\xff\x00", 1},
		"\x00\xff\x00":     {"\x00\xff\x00", 2},
		"abc":              {"cab", 1},
		"cba":              {"abc", 3},
		"abab":             {"bbaa", 2},
		"mississippi":      {"ipssmpissii", 5},
		"abracadabra":      {"ardrcaaaabb", 3},
		"\xff\x00\xff":     {"\xff\xff\x00", 3},
		"\xc3\xa4\xc3\xa4": {"\xa4\xc3\xc3\xa4", 4},
	} {
		checkTurn(t, text, want)
	}
}

func TestP6TurnAndBack(t *testing.T) {
	for _, text := range append(shortTexts(), longTexts()...) {
		checkTurn(t, text, comparedTurn(text))
	}
	for n := range 120 {
		for _, text := range []string{over("a", n), over("\xff\x00", n), drawn(int64(n), n, 2), drawn(int64(n), n, 256)} {
			checkTurn(t, text, comparedTurn(text))
		}
	}
}

func TestP6OneByteOverAndOver(t *testing.T) {
	for _, piece := range []string{"a", "\x00", "\xff"} {
		for _, n := range []int{1, 2, 3, 999, 1000} {
			checkTurn(t, over(piece, n), turned{over(piece, n), n})
			for _, row := range []int{leastInt, -1, 0, n - 1, n + 1, greatestInt} {
				checkNoRow(t, over(piece, n), row)
			}
		}
	}
}

// nearRows is the rows that a last of so many bytes can be asked for, and those beside them.
func nearRows(n int) []int {
	rows := []int{leastInt, leastInt + 1, -n - 1, -1, n + 1, n + 2, 1 << 32, greatestInt - 1, greatestInt}
	for row := 0; row <= n; row++ {
		rows = append(rows, row)
	}
	return rows
}

// checkEveryRow holds Unturn of every text of some letters, at every row, against all texts that there are, each one turned.
func checkEveryRow(t *testing.T, letters string, most int) {
	t.Helper()
	of := map[turned]string{}
	eachText(letters, most, func(text string) { of[comparedTurn(text)] = text })
	eachText(letters, most, func(last string) {
		for _, row := range nearRows(len(last)) {
			if text, is := of[turned{last, row}]; is {
				checkTurn(t, text, turned{last, row})
			} else {
				checkNoRow(t, last, row)
			}
		}
	})
}

func TestP6EveryShortTextAndRow(t *testing.T) {
	checkEveryRow(t, "ab", 9)
	checkEveryRow(t, "\x00\xff", 6)
	checkEveryRow(t, "\x00a\xff", 5)
	checkEveryRow(t, "abcd", 4)
}

// TestP6BackTooSoon: from the whole text's row it goes to the mark's before all bytes are met.
func TestP6BackTooSoon(t *testing.T) {
	for _, c := range []turned{
		{"a", 0}, {"ab", 0}, {"ab", 1}, {"ba", 0}, {"ba", 2}, {"aab", 1}, {"aab", 2}, {"aaab", 3}, {"annbaa", 3}, {"annbaa", 5},
		{over("ab", 1000), 1}, {over("a", 1000), 500}, {allBytes(), 1}, {allBytes(), 255}, {falling(), 0},
	} {
		checkNoRow(t, c.last, c.row)
	}
}

// TestP6DrawnLasts: most of these are of no text. What can be undone is known by sorting, again and again, what stands ahead.
func TestP6DrawnLasts(t *testing.T) {
	undone := 0
	for seed := range int64(60) {
		last := drawn(seed, int(seed)%24, 2+int(seed)%4)
		for _, row := range nearRows(len(last)) {
			text, is := comparedBack(turned{last, row})
			if !is {
				checkNoRow(t, last, row)
				continue
			}
			undone++
			checkTurn(t, text, turned{last, row})
		}
	}
	if undone == 0 {
		t.Errorf("no last was of a text: draw others")
	}
}

func TestP6RowsBesideThoseOfLongTexts(t *testing.T) {
	for _, text := range longTexts() {
		last := comparedTurn(text).last
		for _, row := range []int{leastInt, -len(last), -1, 0, len(last) + 1, 1 << 32, greatestInt} {
			checkNoRow(t, last, row)
		}
	}
}

func TestP6NoBytes(t *testing.T) {
	checkTurn(t, "", turned{"", 0})
	for _, row := range extremeNumbers() {
		if row != 0 {
			checkNoRow(t, "", row)
		}
	}
}

func TestP6TooLong(t *testing.T) {
	for _, n := range []int{1001, 5000} {
		for _, piece := range []string{"a", "ab", "\x00"} {
			if last, row, e := sedge.Turn(over(piece, n)); last != "" || row != 0 || e != api.ErrLong {
				t.Errorf("P6: Turn of %d bytes = %.60q, %d, %d, want nothing, ErrLong", n, last, row, e)
			}
			for _, row := range append(extremeNumbers(), n) {
				if text, e := sedge.Unturn(over(piece, n), row); text != "" || e != api.ErrLong {
					t.Errorf("P6: Unturn of %d bytes, %d = %.60q, %d, want nothing, ErrLong", n, row, text, e)
				}
			}
		}
	}
}

func TestP10UnturnOfWhatTurnMakes(t *testing.T) {
	check := func(text string) {
		last, row, e := sedge.Turn(text)
		if e != api.OK {
			t.Fatalf("P10: Turn of %.60q (%d bytes): %d", text, len(text), e)
		}
		if back, e := sedge.Unturn(last, row); back != text || e != api.OK {
			t.Fatalf("P10: Unturn of what Turn makes of %.60q (%d bytes) = %.60q, %d", text, len(text), back, e)
		}
	}
	for _, text := range slices.Concat(shortTexts(), longTexts()) {
		check(text)
	}
	eachText("abc", 7, check)
	for n := 0; n <= 1000; n += 9 {
		check(drawn(int64(n), n, 1+n%256))
	}
}

func TestP10TurnOfWhatUnturnGives(t *testing.T) {
	given := 0
	check := func(last string, row int) {
		text, e := sedge.Unturn(last, row)
		if e != api.OK {
			return
		}
		given++
		if again, at, e := sedge.Turn(text); again != last || at != row || e != api.OK {
			t.Fatalf("P10: Turn of what Unturn gives for %.60q, %d = %.60q, %d, %d", last, row, again, at, e)
		}
	}
	eachText("abc", 6, func(last string) {
		for row := range len(last) + 1 {
			check(last, row)
		}
	})
	for _, text := range longTexts() {
		last, row, _ := sedge.Turn(text)
		for other := range len(last) + 1 {
			check(last, other)
		}
		check(text, row)
	}
	if given < 1000 {
		t.Errorf("P10: Unturn gave only %d texts", given)
	}
}
