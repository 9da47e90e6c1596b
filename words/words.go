// Package words is no layer, but what those share that are told in words of a script (prog, setup, acts, script): it makes such words, and reads them one behind the other.
package words

import "forelock/api"

// Name answers the word of a name, without a place.
func Name(text string) api.Word {
	return api.Word{Kind: api.WordName, Text: text}
}

// Number answers the word of a number, without a place.
func Number(n int) api.Word {
	return api.Word{Kind: api.WordNum, N: n}
}

// Mark answers the word of a mark, without a place.
func Mark(text string) api.Word {
	return api.Word{Kind: api.WordMark, Text: text}
}

// Span is the numbers from Least to Most; the zero Span has 0 alone.
type Span struct {
	Least, Most int
}

// Has answers whether n is in s.
func (s Span) Has(n int) bool {
	return n >= s.Least && n <= s.Most
}
