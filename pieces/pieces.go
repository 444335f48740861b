// Package pieces parts a text into pieces that stood there before, and puts such pieces together.
package pieces

import (
	"sedge/api"
	"sedge/parts"
)

// Of parts a text into its factors. Each is as long as may be: whatever is taken from ahead can be taken without its first bytes too, so that a shorter piece never lets those behind it reach further.
func Of(text string) []api.Factor {
	table := parts.Of(text)
	var list []api.Factor
	for place := 0; place < len(text); {
		f := piece(table, text, place)
		list = append(list, f)
		place += size(f)
	}
	return list
}

// piece is the factor at a place.
func piece(table parts.Table, text string, place int) api.Factor {
	from, n := table.Earlier(place)
	if n == 0 {
		return api.Factor{Byte: text[place]}
	}
	return api.Factor{From: from, Len: n}
}

// size is how many bytes a factor stands for.
func size(f api.Factor) int {
	return max(f.Len, 1)
}

// Join puts factors together. Beside an error it tells the number of the factor at which it stopped.
func Join(list []api.Factor) (text string, e api.Errno, at int) {
	var joined []byte
	for i, f := range list {
		if !fits(f, len(joined)) {
			return "", api.ErrFactor, i
		}
		// What is left is held against the size, as their sum may be more than an int holds.
		if size(f) > api.MaxText-len(joined) {
			return "", api.ErrLong, i
		}
		joined = add(joined, f)
	}
	return string(joined), api.OK, 0
}

// fits is whether a factor may stand behind so many bytes.
func fits(f api.Factor, have int) bool {
	if f.Len == 0 {
		return f.From == 0
	}
	return f.Len > 0 && f.Byte == 0 && f.From >= 0 && f.From < have
}

// add puts a factor behind the bytes so far. It goes byte by byte, as a piece that reaches over itself is made of bytes that it has only just brought.
func add(joined []byte, f api.Factor) []byte {
	if f.Len == 0 {
		return append(joined, f.Byte)
	}
	for i := range f.Len {
		joined = append(joined, joined[f.From+i])
	}
	return joined
}
