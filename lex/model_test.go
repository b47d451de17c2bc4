package lex

import (
	"fmt"
	"regexp"
	"strings"
	"testing"

	"caisson/api"
)

// How a word stands at the beginning of a text, by other means than the program's.
var (
	blanks   = regexp.MustCompile("^[ \t\n\r]*")
	nameIs   = regexp.MustCompile("^[A-Za-z_][A-Za-z0-9_]*")
	keyIs    = regexp.MustCompile("^(" + strings.ReplaceAll(all, " ", "|") + ")$")
	numberIs = regexp.MustCompile("^[0-9]+")
	stringIs = regexp.MustCompile("^'(?s:[^']|'')*'")
	signIs   = regexp.MustCompile("^(<>|<=|>=|[<>(),*=-])")
)

// model tells the words of a text, or its fault, as told does.
func model(text string) string {
	if len(text) > 4096 {
		return fault(api.ErrLong, 0)
	}
	l, at := []api.Word{}, 0
	for {
		at += len(blanks.FindString(text[at:]))
		rest := text[at:]
		if rest == "" {
			return told(append(l, api.Word{Kind: 6, At: at}), api.Fault{})
		}
		w, size, f := modelWord(rest)
		if f.Code != 0 {
			return fault(f.Code, at+f.At)
		}
		w.At = at
		l, at = append(l, w), at+size
	}
}

// modelWord tells the word at the beginning of a text, its size, and its fault.
func modelWord(rest string) (api.Word, int, api.Fault) {
	if s := nameIs.FindString(rest); s != "" {
		switch {
		case keyIs.MatchString(strings.ToUpper(s)):
			return api.Word{Kind: 2, Text: strings.ToUpper(s)}, len(s), api.Fault{}
		case len(s) > 32:
			return api.Word{}, 0, api.Fault{Code: 45}
		}
		return api.Word{Kind: 1, Text: s}, len(s), api.Fault{}
	}
	if s := numberIs.FindString(rest); s != "" {
		switch {
		case strings.HasPrefix(s, "0") && s != "0":
			return api.Word{}, 0, api.Fault{Code: 40}
		case len(s) > 19:
			return api.Word{}, 0, api.Fault{Code: 45}
		case nameIs.MatchString(rest[len(s):]):
			return api.Word{}, 0, api.Fault{Code: 40, At: len(s)}
		}
		return api.Word{Kind: 3, Text: s}, len(s), api.Fault{}
	}
	if s := stringIs.FindString(rest); s != "" && !strings.HasPrefix(rest[len(s):], "'") {
		text := strings.Join(strings.Split(s[1:len(s)-1], "''"), "'")
		if len(text) > 64 {
			return api.Word{}, 0, api.Fault{Code: 45}
		}
		return api.Word{Kind: 4, Text: text}, len(s), api.Fault{}
	}
	if s := signIs.FindString(rest); s != "" {
		return api.Word{Kind: 5, Text: s}, len(s), api.Fault{}
	}
	return api.Word{}, 0, api.Fault{Code: 40}
}

// one of all texts of so many pieces, by its number
func pieced(pieces []string, many, number int) string {
	text := ""
	for range many {
		text += pieces[number%len(pieces)]
		number /= len(pieces)
	}
	return text
}

// one of very many texts of so many pieces: each seed has its own
func shuffled(pieces []string, many, seed int) string {
	text, n := "", uint64(seed)
	for range many {
		n = n*6364136223846793005 + 1442695040888963407
		text += pieces[n>>33%uint64(len(pieces))]
	}
	return text
}

// All short texts of some bytes are as the model tells.
func TestP91ModelShort(t *testing.T) {
	bytes := strings.Split("a_01'<>=- ;", "")
	for many := range 5 {
		texts := 1
		for range many {
			texts *= len(bytes)
		}
		for n := range texts {
			text := pieced(bytes, many, n)
			is(t, fmt.Sprintf("%q", text), told(Words(text)), model(text))
		}
	}
}

// So are texts of pieces that are just short enough, or just too long.
func TestP91ModelPieces(t *testing.T) {
	pieces := []string{
		"", " ", "\n", "in", "GrouPing", strings.Repeat("q", 31), strings.Repeat("_", 33), "0", "5", strings.Repeat("8", 18), strings.Repeat("9", 20),
		"'", "''", "'x'", "'" + strings.Repeat("y", 63), strings.Repeat("z", 64) + "'", "<", "=", "(*)", "ä", "\xff", "\x00", strings.Repeat("\t", 4000),
	}
	for n := range len(pieces) * len(pieces) * len(pieces) {
		text := pieced(pieces, 3, n)
		is(t, fmt.Sprintf("%.80q", text), told(Words(text)), model(text))
	}
	for seed := range 20000 {
		text := shuffled(pieces, 9, seed)
		is(t, fmt.Sprintf("%.80q", text), told(Words(text)), model(text))
	}
}

// words of all kinds
func someWords() []api.Word {
	l := []api.Word{}
	for _, keyword := range strings.Fields(all) {
		l = append(l, api.Word{Kind: api.Keyword, Text: keyword})
	}
	for _, name := range []string{"a", "_", "Sums", strings.Repeat("x", 32)} {
		l = append(l, api.Word{Kind: api.Name, Text: name})
	}
	for _, number := range []string{"0", "9", "10", "9999999999999999999"} {
		l = append(l, api.Word{Kind: api.Number, Text: number})
	}
	for _, text := range []string{"", "'", "it's", " ", "SELECT", "\x00\xff", strings.Repeat("'", 64)} {
		l = append(l, api.Word{Kind: api.String, Text: text})
	}
	for _, sign := range strings.Fields("( ) , * = - <> <= < >= >") {
		l = append(l, api.Word{Kind: api.Sign, Text: sign})
	}
	return l
}

// the text of words, with such blanks behind each, and what Words tells of it
func laid(l []api.Word, blanks ...string) (string, string) {
	text, placed := "", []api.Word{}
	for i, w := range l {
		w.At = len(text)
		placed = append(placed, w)
		if w.Kind == api.String {
			w.Text = "'" + strings.ReplaceAll(w.Text, "'", "''") + "'"
		}
		text += w.Text + blanks[i%len(blanks)]
	}
	return text, told(append(placed, api.Word{Kind: api.End, At: len(text)}), api.Fault{})
}

// Words' own texts with blanks between are those words, whatever blanks there are.
func TestP93Again(t *testing.T) {
	l := someWords()
	for _, blanks := range [][]string{{" "}, {"\t"}, {"\n"}, {"\r"}, {"  "}, {" ", "\r\n", "\t\t\t\t\t", "\n \n"}} {
		text, want := laid(l, blanks...)
		is(t, fmt.Sprintf("all, with %q", blanks), told(Words(text)), want)
	}
	for _, a := range l {
		for _, b := range l {
			text, want := laid([]api.Word{a, b, a}, " ", "\n\t")
			is(t, fmt.Sprintf("%.80q", text), told(Words(text)), want)
		}
	}
}

// A text of 64 bytes at most, quoted, is one String that says it.
func TestP93Quote(t *testing.T) {
	pieces := []string{"'", "a", " ", "\x00", "\xff", "ä", "\n", "''", "\"", "\\'"}
	for size := range 65 {
		for seed := range 40 {
			s := shuffled(pieces, size, seed)[:size]
			quoted := Quote(s)
			want := told([]api.Word{{Kind: api.String, Text: s}, {Kind: api.End, At: len(quoted)}}, api.Fault{})
			is(t, fmt.Sprintf("%q", s), told(Words(quoted)), want)
		}
	}
	is(t, "65 bytes", told(Words(Quote(strings.Repeat("'", 65)))), fault(api.ErrLong, 0))
}
