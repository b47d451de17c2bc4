package lex

import (
	"strings"

	"caisson/api"
)

// mostDigits is how many digits a number has at most: those of the greatest int64.
const mostDigits = 19

// scan goes through a text word by word, till one is wrong.
type scan struct {
	text  string
	at    int // all ahead of it is gone through
	words []api.Word
	fault api.Fault
}

// rest is what is not gone through yet.
func (s *scan) rest() string { return s.text[s.at:] }

// take takes a word of so many bytes.
func (s *scan) take(kind int, text string, size int) {
	s.words = append(s.words, api.Word{Kind: kind, Text: text, At: s.at})
	s.at += size
}

// fail ends it: something is wrong so many bytes further on.
func (s *scan) fail(e api.Errno, on int) {
	s.words, s.fault = nil, api.Fault{Code: e, At: s.at + on}
}

// letters takes a keyword or a name.
func (s *scan) letters(rest string) {
	size := run(rest, goesOn)
	keyword := keywordOf(rest[:size])
	switch {
	case keyword != "":
		s.take(api.Keyword, keyword, size)
	case size > api.MaxName:
		s.fail(api.ErrLong, 0)
	default:
		s.take(api.Name, rest[:size], size)
	}
}

// digits takes a number.
func (s *scan) digits(rest string) {
	size := run(rest, isDigit)
	switch {
	case size > 1 && rest[0] == '0':
		s.fail(api.ErrWord, 0)
	case size > mostDigits:
		s.fail(api.ErrLong, 0)
	case first(rest[size:]) == letter:
		s.fail(api.ErrWord, size)
	default:
		s.take(api.Number, rest[:size], size)
	}
}

// quoted takes a text in quotes.
func (s *scan) quoted(rest string) {
	size := quotedSize(rest)
	if size == 0 {
		s.fail(api.ErrWord, 0)
		return
	}
	text := strings.ReplaceAll(rest[1:size-1], "''", "'")
	if len(text) > api.MaxText {
		s.fail(api.ErrLong, 0)
		return
	}
	s.take(api.String, text, size)
}

// sign takes a sign, the longest one that stands there.
func (s *scan) sign(rest string) {
	size := 1
	switch rest[:min(2, len(rest))] {
	case "<>", "<=", ">=":
		size = 2
	}
	s.take(api.Sign, rest[:size], size)
}

// quotedSize is how many bytes the text in quotes at the beginning has, with these; 0, if it has no end.
func quotedSize(rest string) int {
	size := 1
	for size < len(rest) {
		switch {
		case rest[size] != '\'':
			size++
		case strings.HasPrefix(rest[size:], "''"):
			size += 2
		default:
			return size + 1
		}
	}
	return 0
}
