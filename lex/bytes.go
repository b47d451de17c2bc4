package lex

// The kinds of bytes, by what begins with them.
const (
	none = iota // no word
	blank
	letter
	digit
	quote
	sign
	end // behind the last byte
)

// kinds are those of the bytes below 128; with the others no word begins.
var kinds = [128]byte{
	' ': blank, '\t': blank, '\n': blank, '\r': blank,

	'A': letter, 'B': letter, 'C': letter, 'D': letter, 'E': letter, 'F': letter, 'G': letter,
	'H': letter, 'I': letter, 'J': letter, 'K': letter, 'L': letter, 'M': letter, 'N': letter,
	'O': letter, 'P': letter, 'Q': letter, 'R': letter, 'S': letter, 'T': letter, 'U': letter,
	'V': letter, 'W': letter, 'X': letter, 'Y': letter, 'Z': letter,
	'a': letter, 'b': letter, 'c': letter, 'd': letter, 'e': letter, 'f': letter, 'g': letter,
	'h': letter, 'i': letter, 'j': letter, 'k': letter, 'l': letter, 'm': letter, 'n': letter,
	'o': letter, 'p': letter, 'q': letter, 'r': letter, 's': letter, 't': letter, 'u': letter,
	'v': letter, 'w': letter, 'x': letter, 'y': letter, 'z': letter, '_': letter,

	'0': digit, '1': digit, '2': digit, '3': digit, '4': digit,
	'5': digit, '6': digit, '7': digit, '8': digit, '9': digit,

	'\'': quote,

	'(': sign, ')': sign, ',': sign, '*': sign, '=': sign, '-': sign, '<': sign, '>': sign,
}

// keywords are all of them, in capitals.
var keywords = [17]string{
	"SELECT", "FROM", "WHERE", "GROUP", "BY", "ROLLUP", "CUBE", "GROUPING", "SETS",
	"COUNT", "SUM", "MIN", "MAX", "AND", "OR", "NOT", "IN",
}

// kindOf is a byte's kind.
func kindOf(b byte) byte {
	if int(b) >= len(kinds) {
		return none
	}
	return kinds[b]
}

// first is the kind of a text's first byte.
func first(s string) byte {
	if s == "" {
		return end
	}
	return kindOf(s[0])
}

func isBlank(b byte) bool { return kindOf(b) == blank }

func isDigit(b byte) bool { return kindOf(b) == digit }

// goesOn tells whether a name or a keyword goes on with a byte.
func goesOn(b byte) bool { return kindOf(b) == letter || isDigit(b) }

// run is how many bytes at a text's beginning are meant, up to the first one that isn't.
func run(s string, meant func(b byte) bool) int {
	for i := range len(s) {
		if !meant(s[i]) {
			return i
		}
	}
	return len(s)
}

// keywordOf is the keyword that a text is, in capitals; the empty text, if it is none.
func keywordOf(s string) string {
	for _, keyword := range keywords {
		if spells(s, keyword) {
			return keyword
		}
	}
	return ""
}

// spells tells whether a text is a keyword. Letters beyond A to Z have no capitals here: Unicode's would make keywords of texts that are none.
func spells(s, keyword string) bool {
	if len(s) != len(keyword) {
		return false
	}
	for i := range len(s) {
		if capital(s[i]) != keyword[i] {
			return false
		}
	}
	return true
}

// capital is a byte's capital, if it is a small letter; else the byte.
func capital(b byte) byte {
	if 'a' <= b && b <= 'z' {
		return b - 'a' + 'A'
	}
	return b
}
