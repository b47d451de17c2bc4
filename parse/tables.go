package parse

import "caisson/api"

// table has the words of the grammar by the numbers that queries have for them.
type table [7]string

// calls are the keywords of items.
var calls = table{
	api.ItemCount: "COUNT", api.ItemSum: "SUM", api.ItemMin: "MIN", api.ItemMax: "MAX", api.ItemGrouping: "GROUPING",
}

// signs are those of comparisons.
var signs = table{
	api.Equal: "=", api.Unequal: "<>", api.Less: "<", api.AtMost: "<=", api.Greater: ">", api.AtLeast: ">=",
}

// place is a word's number, 0 if it has none.
func (t table) place(word string) int {
	for number, w := range t {
		if w == word {
			return number
		}
	}
	return 0
}
