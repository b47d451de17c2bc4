package lex

import (
	"fmt"
	"strings"
	"testing"

	"caisson/api"
)

func is(t *testing.T, what string, got, want any) {
	t.Helper()
	if g, w := fmt.Sprint(got), fmt.Sprint(want); g != w {
		t.Errorf("%s: %.300s, want %.300s", what, g, w)
	}
}

// the words of a text, a letter for each one's kind, its text quoted, and its place; or the fault: its number, its place, how many words
func told(l []api.Word, f api.Fault) string {
	if f != (api.Fault{}) {
		return fmt.Sprintf("fault %d at %d, %d", int(f.Code), f.At, len(l))
	}
	parts := []string{}
	for _, w := range l {
		parts = append(parts, fmt.Sprintf("%c%q@%d", "?NKDTSE"[w.Kind], w.Text, w.At))
	}
	return strings.Join(parts, " ")
}

func fault(e api.Errno, at int) string { return told(nil, api.Fault{Code: e, At: at}) }

// each text, and what is told of it
func check(t *testing.T, cases [][2]string) {
	t.Helper()
	for _, c := range cases {
		is(t, fmt.Sprintf("Words(%.60q)", c[0]), told(Words(c[0])), c[1])
	}
}

// all keywords, as the document has them
const all = "SELECT FROM WHERE GROUP BY ROLLUP CUBE GROUPING SETS COUNT SUM MIN MAX AND OR NOT IN"

// a keyword in small letters where the bits of mix are 1
func mixed(keyword string, mix int) string {
	b := []byte(keyword)
	for i := range b {
		if mix>>i%2 == 1 {
			b[i] += 'a' - 'A'
		}
	}
	return string(b)
}

func TestExamples(t *testing.T) {
	check(t, [][2]string{
		{"select a,COUNT(*)", `K"SELECT"@0 N"a"@7 S","@8 K"COUNT"@9 S"("@14 S"*"@15 S")"@16 E""@17`},
		{"x<>'it''s'", `N"x"@0 S"<>"@1 T"it's"@3 E""@10`},
		{"", `E""@0`},
		{"a 007", fault(api.ErrWord, 2)},
		{"a 7b", fault(api.ErrWord, 3)},
		{"a ;", fault(api.ErrWord, 2)},
		{"'a", fault(api.ErrWord, 0)},
		{strings.Repeat("x", 33), fault(api.ErrLong, 0)},
	})
}

func TestP91Long(t *testing.T) {
	check(t, [][2]string{
		{strings.Repeat(" ", 4096), `E""@4096`},
		{strings.Repeat(" ", 4095) + "a", `N"a"@4095 E""@4096`},
		{strings.Repeat(" ", 4095) + ";", fault(api.ErrWord, 4095)},
		{strings.Repeat(" ", 4097), fault(api.ErrLong, 0)},
		{";" + strings.Repeat(" ", 4096), fault(api.ErrLong, 0)},
		{"'" + strings.Repeat("ä", 2048), fault(api.ErrLong, 0)},
		{strings.Repeat("a ", 1<<20), fault(api.ErrLong, 0)},
		{strings.Repeat("\x00", 1<<20), fault(api.ErrLong, 0)},
	})
	l, f := Words(strings.Repeat("(", 4096))
	is(t, "as many words as may be", len(l), 4097)
	is(t, "the last two", told(l[4095:], f), `S"("@4095 E""@4096`)
}

func TestP91Blanks(t *testing.T) {
	check(t, [][2]string{
		{" ", `E""@1`},
		{" \t\n\r \r\n\t", `E""@8`},
		{"\ta\nb\r c ", `N"a"@1 N"b"@3 N"c"@6 E""@8`},
		{"\n1\t'' \r=", `D"1"@1 T""@3 S"="@7 E""@8`},
	})
}

func TestP91Names(t *testing.T) {
	most := strings.Repeat("x", 32)
	check(t, [][2]string{
		{"a", `N"a"@0 E""@1`},
		{"Z", `N"Z"@0 E""@1`},
		{"_", `N"_"@0 E""@1`},
		{"_0", `N"_0"@0 E""@2`},
		{"azAZ_09", `N"azAZ_09"@0 E""@7`},
		{"a b", `N"a"@0 N"b"@2 E""@3`},
		{"a'b'c", `N"a"@0 T"b"@1 N"c"@4 E""@5`},
		{most, `N"` + most + `"@0 E""@32`},
		{most + "x", fault(api.ErrLong, 0)},
		{" " + most + "0", fault(api.ErrLong, 1)},
		{most + "x;", fault(api.ErrLong, 0)},
		{most + " " + most + " " + most + "_", fault(api.ErrLong, 66)},
		{strings.Repeat("x", 4096), fault(api.ErrLong, 0)},
		{strings.Repeat("SELECT", 6), fault(api.ErrLong, 0)},
		{"aä", fault(api.ErrWord, 1)},
		{"a.b", fault(api.ErrWord, 1)},
	})
}

func TestP91Keywords(t *testing.T) {
	for _, keyword := range strings.Fields(all) {
		for mix := range 1 << len(keyword) {
			text := mixed(keyword, mix)
			is(t, text, told(Words(" "+text+",")), fmt.Sprintf(`K%q@1 S","@%d E""@%d`, keyword, len(text)+1, len(text)+2))
		}
		for _, name := range []string{keyword + "_", "_" + keyword, keyword + "0", keyword + "x", keyword[:len(keyword)-1], keyword + keyword} {
			is(t, name, told(Words(name)), fmt.Sprintf(`N%q@0 E""@%d`, name, len(name)))
		}
	}
	check(t, [][2]string{
		{"group by grouping sets", `K"GROUP"@0 K"BY"@6 K"GROUPING"@9 K"SETS"@18 E""@22`},
		{"ORDER GROUPBY FACTS IS", `N"ORDER"@0 N"GROUPBY"@6 N"FACTS"@14 N"IS"@20 E""@22`},
		{"select1", `N"select1"@0 E""@7`},
		{"1select", fault(api.ErrWord, 1)},
		{"ſELECT", fault(api.ErrWord, 0)},
		{"ıN", fault(api.ErrWord, 0)},
	})
}

func TestP91Numbers(t *testing.T) {
	most := strings.Repeat("9", 19)
	check(t, [][2]string{
		{"0", `D"0"@0 E""@1`},
		{"7", `D"7"@0 E""@1`},
		{"10", `D"10"@0 E""@2`},
		{"1234567890", `D"1234567890"@0 E""@10`},
		{"1 2", `D"1"@0 D"2"@2 E""@3`},
		{"0,0", `D"0"@0 S","@1 D"0"@2 E""@3`},
		{"-5", `S"-"@0 D"5"@1 E""@2`},
		{"1'2'3", `D"1"@0 T"2"@1 D"3"@4 E""@5`},
		{most, `D"` + most + `"@0 E""@19`},
		{"9223372036854775808", `D"9223372036854775808"@0 E""@19`},
		{"00", fault(api.ErrWord, 0)},
		{" 01", fault(api.ErrWord, 1)},
		{"-00", fault(api.ErrWord, 1)},
		{most + "9", fault(api.ErrLong, 0)},
		{"a=1" + most, fault(api.ErrLong, 2)},
		{strings.Repeat("1", 4096), fault(api.ErrLong, 0)},
		{"1a", fault(api.ErrWord, 1)},
		{"12_", fault(api.ErrWord, 2)},
		{" 0x1", fault(api.ErrWord, 2)},
		{"1e5", fault(api.ErrWord, 1)},
		{most + "Z", fault(api.ErrWord, 19)},
		{"1.5", fault(api.ErrWord, 1)},
		{"1ä", fault(api.ErrWord, 1)},
	})
}

// Of one number that is wrong in several ways the first way is told.
func TestP91NumbersWrongTwice(t *testing.T) {
	check(t, [][2]string{
		{"00a", fault(api.ErrWord, 0)},
		{" 0" + strings.Repeat("1", 30) + "a", fault(api.ErrWord, 1)},
		{strings.Repeat("0", 20), fault(api.ErrWord, 0)},
		{" " + strings.Repeat("1", 20) + "a", fault(api.ErrLong, 1)},
	})
}

func TestP91Strings(t *testing.T) {
	most, quotes := strings.Repeat("x", 64), strings.Repeat("''", 64)
	check(t, [][2]string{
		{"''", `T""@0 E""@2`},
		{"'a'", `T"a"@0 E""@3`},
		{"''''", `T"'"@0 E""@4`},
		{"''''''", `T"''"@0 E""@6`},
		{"'a'''", `T"a'"@0 E""@5`},
		{"'''a'", `T"'a"@0 E""@5`},
		{"'a''b''''c'", `T"a'b''c"@0 E""@11`},
		{"'a' 'b'", `T"a"@0 T"b"@4 E""@7`},
		{"'a'b'c'", `T"a"@0 N"b"@3 T"c"@4 E""@7`},
		{"'' ''", `T""@0 T""@3 E""@5`},
		{"' \n;\"SELECT 00'", `T" \n;\"SELECT 00"@0 E""@15`},
		{"'\x00\xff\\'", `T"\x00\xff\\"@0 E""@5`},
		{"'ä'", `T"ä"@0 E""@4`},
		{"'" + most + "'", `T"` + most + `"@0 E""@66`},
		{"'" + quotes + "'", `T"` + strings.Repeat("'", 64) + `"@0 E""@130`},
		{"'" + strings.Repeat("ä", 32) + "'", `T"` + strings.Repeat("ä", 32) + `"@0 E""@66`},
		{"'", fault(api.ErrWord, 0)},
		{"'''", fault(api.ErrWord, 0)},
		{"'a''", fault(api.ErrWord, 0)},
		{"'a''''", fault(api.ErrWord, 0)},
		{"a = 'b", fault(api.ErrWord, 4)},
		{"'a' 'b", fault(api.ErrWord, 4)},
		{"'a\"", fault(api.ErrWord, 0)},
		{"'" + most + "x'", fault(api.ErrLong, 0)},
		{"'" + quotes + "'''", fault(api.ErrLong, 0)},
		{"a " + "'" + strings.Repeat("ä", 33) + "'", fault(api.ErrLong, 2)},
		{"'" + most + "x", fault(api.ErrWord, 0)},
		{"'" + quotes + "x", fault(api.ErrWord, 0)},
		{"'" + strings.Repeat(" ", 4094) + "'", fault(api.ErrLong, 0)},
	})
}

func TestP91Signs(t *testing.T) {
	for _, sign := range []string{"(", ")", ",", "*", "=", "-", "<>", "<=", "<", ">=", ">"} {
		is(t, sign, told(Words(sign)), fmt.Sprintf(`S%q@0 E""@%d`, sign, len(sign)))
		is(t, sign+" between", told(Words("a"+sign+"1")), fmt.Sprintf(`N"a"@0 S%q@1 D"1"@%d E""@%d`, sign, len(sign)+1, len(sign)+2))
	}
	check(t, [][2]string{
		{"<>=", `S"<>"@0 S"="@2 E""@3`},
		{"<=>", `S"<="@0 S">"@2 E""@3`},
		{"<<=", `S"<"@0 S"<="@1 E""@3`},
		{"><", `S">"@0 S"<"@1 E""@2`},
		{">>=", `S">"@0 S">="@1 E""@3`},
		{"=<", `S"="@0 S"<"@1 E""@2`},
		{"==", `S"="@0 S"="@1 E""@2`},
		{"< >", `S"<"@0 S">"@2 E""@3`},
		{"> =", `S">"@0 S"="@2 E""@3`},
		{"--", `S"-"@0 S"-"@1 E""@2`},
		{"(())", `S"("@0 S"("@1 S")"@2 S")"@3 E""@4`},
		{"!=", fault(api.ErrWord, 0)},
		{"<!", fault(api.ErrWord, 1)},
	})
}

// A byte that begins no word is a fault, alone and behind a word.
func TestP91OtherBytes(t *testing.T) {
	others := 0
	for b := range 256 {
		text := string([]byte{byte(b)})
		if strings.Contains(" \t\n\r'(),*=-<>_0123456789", text) || 'A' <= b&^0x20 && b&^0x20 <= 'Z' {
			continue
		}
		others++
		check(t, [][2]string{
			{text, fault(api.ErrWord, 0)},
			{" " + text, fault(api.ErrWord, 1)},
			{"(" + text, fault(api.ErrWord, 1)},
			{"''" + text + "'", fault(api.ErrWord, 2)},
			{"a0" + text + "b", fault(api.ErrWord, 2)},
			{"'" + text + "'", fmt.Sprintf(`T%q@0 E""@3`, text)},
		})
	}
	is(t, "how many", others, 256-4-1-8-1-10-52)
}

// Of several words that are wrong the first one is told.
func TestP91FirstFault(t *testing.T) {
	long := strings.Repeat("x", 33)
	check(t, [][2]string{
		{"; 00", fault(api.ErrWord, 0)},
		{"a 00 " + long, fault(api.ErrWord, 2)},
		{long + " 00 ;", fault(api.ErrLong, 0)},
		{"1a 'b", fault(api.ErrWord, 1)},
		{"'" + long + long + "' ;", fault(api.ErrLong, 0)},
		{"1 ' " + long + " 00 ;", fault(api.ErrWord, 2)},
		{"a b c d 00", fault(api.ErrWord, 8)},
	})
}

func TestP92IsName(t *testing.T) {
	for _, name := range []string{"a", "Z", "_", "__", "_0", "a1", "sums", "selec", "_in", strings.Repeat("x", 32), strings.Repeat("a0_B", 8)} {
		is(t, name, IsName(name), true)
	}
	for _, s := range []string{
		"", " ", "0", "1a", "-", "a b", " a", "a ", "a-b", "a.b", "a'", "'a'", "a\x00", "\x00", "ä", "aä", "\xff", "a\n", "*", "(",
		strings.Repeat("x", 33), strings.Repeat("x", 1<<20), "SELECT", "in", "Sum",
	} {
		is(t, fmt.Sprintf("%.60q", s), IsName(s), false)
	}
	for b := range 256 {
		text := string([]byte{byte(b)})
		begins := strings.Contains("ABCDEFGHIJKLMNOPQRSTUVWXYZabcdefghijklmnopqrstuvwxyz_", text)
		is(t, fmt.Sprintf("%q alone", text), IsName(text), begins)
		is(t, fmt.Sprintf("%q behind a letter", text), IsName("x"+text), begins || strings.Contains("0123456789", text))
	}
}

func TestP92IsKeyword(t *testing.T) {
	for _, keyword := range strings.Fields(all) {
		for mix := range 1 << len(keyword) {
			text := mixed(keyword, mix)
			is(t, text, fmt.Sprint(IsKeyword(text), IsName(text)), "true false")
		}
		for _, s := range []string{keyword + " ", " " + keyword, keyword + "S", keyword[1:], keyword[:len(keyword)-1], keyword + "\x00", "'" + keyword + "'", strings.Repeat(keyword, 1000)} {
			is(t, fmt.Sprintf("%.60q", s), IsKeyword(s), strings.Contains(" "+all+" ", " "+s+" ") && s == strings.TrimSpace(s))
		}
		for i := range len(keyword) {
			s := keyword[:i] + string([]byte{keyword[i] ^ 0x40}) + keyword[i+1:]
			is(t, fmt.Sprintf("%q", s), IsKeyword(s), false)
		}
	}
	for _, s := range []string{"", " ", "a", "AS", "ORDER", "GROUP BY", "facts", "\x00", "ſUM", "ſets", "ıN", "İN", "mİn", "nOt\xff", strings.Repeat("S", 1<<20)} {
		is(t, fmt.Sprintf("%.60q", s), IsKeyword(s), false)
	}
}

func TestP92Quote(t *testing.T) {
	for _, c := range [][2]string{
		{"", "''"}, {"a", "'a'"}, {"it's", "'it''s'"}, {"'", "''''"}, {"''", "''''''"}, {"'a'", "'''a'''"},
		{"\x00\xff\n\"\\", "'\x00\xff\n\"\\'"}, {"ä", "'ä'"}, {"SELECT", "'SELECT'"},
		{strings.Repeat("'", 100000), strings.Repeat("'", 200002)}, {strings.Repeat("x", 5000), "'" + strings.Repeat("x", 5000) + "'"},
	} {
		is(t, fmt.Sprintf("%.60q", c[0]), Quote(c[0]), c[1])
	}
}

// A text that is told stays as it is, whatever is done to a list that was told.
func TestMemory(t *testing.T) {
	const text = "select a, 'b' from c"
	l, _ := Words(text)
	before := told(l, api.Fault{})
	m, _ := Words(text)
	for i := range m {
		m[i] = api.Word{Kind: 1, Text: "z", At: 7}
	}
	is(t, "the first list", told(l, api.Fault{}), before)
	is(t, "a third one", told(Words(text)), before)
}
