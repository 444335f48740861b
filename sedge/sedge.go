// Package sedge: all ends of a text in their order: see DOC.md.
package sedge

import (
	"sedge/api"
	"sedge/ends"
	"sedge/parts"
	"sedge/pieces"
	"sedge/shelf"
	"sedge/turn"
)

// Sort tells the places at which the ends of a text begin, in the ends' order (P3).
func Sort(text string, how int) ([]int, api.Errno) {
	ways := [api.Ways]func(ends.Row) []int{
		api.Doubling: ends.Row.Doubling,
		api.Inducing: ends.Row.Inducing,
		api.Thirds:   ends.Row.Thirds,
	}
	if how < 0 || how >= len(ways) {
		return nil, api.ErrHow
	}
	if len(text) > api.MaxText {
		return nil, api.ErrLong
	}
	return ways[how](ends.Of(text)), api.OK
}

// Common tells how far each end agrees with the one ahead of it (P3).
func Common(text string) ([]int, api.Errno) {
	if len(text) > api.MaxText {
		return nil, api.ErrLong
	}
	return parts.Of(text).Common(), api.OK
}

// Parts counts the different parts of a text (P4).
func Parts(text string) (int, api.Errno) {
	if len(text) > api.MaxText {
		return 0, api.ErrLong
	}
	return parts.Of(text).Count(), api.OK
}

// Part is one of them, by its number in their order (P4).
func Part(text string, n int) (string, api.Errno) {
	if len(text) > api.MaxText {
		return "", api.ErrLong
	}
	part, found := parts.Of(text).Nth(n)
	if !found {
		return "", api.ErrNone
	}
	return part, api.OK
}

// Find tells where a pattern stands (P5).
func Find(text string, pattern string) ([]int, api.Errno) {
	if len(text) > api.MaxText {
		return nil, api.ErrLong
	}
	if e := checkPattern(pattern); e != api.OK {
		return nil, e
	}
	return parts.Of(text).Places(pattern), api.OK
}

// Shared tells the longest part that two texts have (P5).
func Shared(a string, b string) (api.Span, api.Errno) {
	if len(a) > api.MaxText || len(b) > api.MaxText {
		return api.Span{}, api.ErrLong
	}
	return parts.Shared(a, b), api.OK
}

// Turn tells the bytes ahead of a text's ends, in the ends' order, and which row has none (P6).
func Turn(text string) (string, int, api.Errno) {
	if len(text) > api.MaxText {
		return "", 0, api.ErrLong
	}
	last, row := turn.Text(text)
	return last, row, api.OK
}

// Unturn gives the text that was turned (P6).
func Unturn(last string, row int) (string, api.Errno) {
	if len(last) > api.MaxText {
		return "", api.ErrLong
	}
	text, found := turn.Back(last, row)
	if !found {
		return "", api.ErrRow
	}
	return text, api.OK
}

// Factors parts a text into pieces that stood there before (P7).
func Factors(text string) ([]api.Factor, api.Errno) {
	if len(text) > api.MaxText {
		return nil, api.ErrLong
	}
	return pieces.Of(text), api.OK
}

// Join puts factors together (P7). There may be as many of them as a text may have bytes.
func Join(l []api.Factor) (string, api.Errno, int) {
	if len(l) > api.MaxText {
		return "", api.ErrMany, 0
	}
	return pieces.Join(l)
}

// Shelf is texts with numbers.
type Shelf struct {
	texts shelf.Texts
}

// NewShelf makes an empty shelf (P8).
func NewShelf() *Shelf {
	return &Shelf{}
}

// Put puts a text on a shelf (P8).
func (s *Shelf) Put(id int, text string) api.Errno {
	switch {
	case id < 0 || id > api.MaxId:
		return api.ErrId
	case s.texts.Has(id):
		return api.ErrTwice
	case len(text) > api.MaxDoc:
		return api.ErrLong
	case s.texts.Count() >= api.MaxShelf:
		return api.ErrFull
	}
	s.texts = s.texts.With(id, text)
	return api.OK
}

// Drop takes one away (P8).
func (s *Shelf) Drop(id int) api.Errno {
	if !s.texts.Has(id) {
		return api.ErrNone
	}
	s.texts = s.texts.Without(id)
	return api.OK
}

// Find tells where a pattern stands, in all texts (P9).
func (s *Shelf) Find(pattern string) ([]api.Hit, api.Errno) {
	if e := checkPattern(pattern); e != api.OK {
		return nil, e
	}
	return s.texts.Find(pattern), api.OK
}

// Top tells in which texts a pattern stands most often (P9).
func (s *Shelf) Top(pattern string, n int) ([]int, api.Errno) {
	if e := checkPattern(pattern); e != api.OK {
		return nil, e
	}
	return s.texts.Top(pattern, n), api.OK
}

// Wide tells the longest part that so many texts have (P9).
func (s *Shelf) Wide(n int) (string, api.Errno) {
	if n < 1 || n > s.texts.Count() {
		return "", api.ErrNone
	}
	return s.texts.Wide(n), api.OK
}

// checkPattern is the reason why a pattern is not looked for, or OK. It may have more bytes than any text of a shelf: then it stands nowhere.
func checkPattern(pattern string) api.Errno {
	if len(pattern) > api.MaxText {
		return api.ErrLong
	}
	if pattern == "" {
		return api.ErrEmpty
	}
	return api.OK
}
