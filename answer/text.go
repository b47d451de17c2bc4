package answer

import (
	"strconv"
	"strings"

	"caisson/api"
)

// line is a text's line of some parts.
func line(parts []string) string { return strings.Join(parts, "|") + "\n" }

// textOf is a cell as a text.
func textOf(c api.Cell) string {
	switch c.Kind {
	case api.Int:
		return strconv.FormatInt(c.Int, 10)
	case api.Text:
		return quoted(c.Text)
	}
	return ""
}

// quoted says what lex.Quote says, which lies in a layer that this one may not call.
func quoted(s string) string { return "'" + strings.ReplaceAll(s, "'", "''") + "'" }
