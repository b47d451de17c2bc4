package parse

import (
	"fmt"
	"math/big"
	"strconv"
	"strings"
	"testing"

	"caisson/api"
	"caisson/lex"
)

// The document's grammar, as it stands there: `x*` stands for any times, `x?` for once or not, both by rules of their own.
var grammar = map[string][]string{
	"query":     {"SELECT item ,item* FROM name where? group? END"},
	",item*":    {"", ", item ,item*"},
	"where?":    {"", "WHERE or"},
	"group?":    {"", "GROUP BY element ,element*"},
	",element*": {"", ", element ,element*"},
	"item":      {"name", "COUNT ( * )", "SUM ( name )", "MIN ( name )", "MAX ( name )", "GROUPING ( name )"},
	"or":        {"and ORand*"},
	"ORand*":    {"", "OR and ORand*"},
	"and":       {"not ANDnot*"},
	"ANDnot*":   {"", "AND not ANDnot*"},
	"not":       {"NOT not", "( or )", "test"},
	"test":      {"name sign value", "name IN ( value ,value* )"},
	",value*":   {"", ", value ,value*"},
	"sign":      {"=", "<>", "<", "<=", ">", ">="},
	"value":     {"string", "-? number"},
	"-?":        {"", "-"},
	"element":   {"name", "ROLLUP list", "CUBE list", "GROUPING SETS ( set ,set* )"},
	",set*":     {"", ", set ,set*"},
	"list":      {"( name ,name* )"},
	",name*":    {"", ", name ,name*"},
	"set":       {"name", "( )", "list"},
}

// symbol is what a word is to the grammar.
func symbol(w api.Word) string {
	switch w.Kind {
	case api.Name:
		return "name"
	case api.Number:
		return "number"
	case api.String:
		return "string"
	case api.End:
		return "END"
	}
	return w.Text
}

// ways are what may still come behind some words, as symbols: each way that these leave.
type ways map[string]bool

// next are the ways behind one more word; none, if it can't stand there.
func (l ways) next(word string) ways {
	out := ways{}
	for rest := range l {
		first, behind, _ := strings.Cut(rest, " ")
		if bodies, ok := grammar[first]; ok {
			inner := ways{}
			for _, body := range bodies {
				inner[strings.TrimSpace(body+" "+behind)] = true
			}
			for w := range inner.next(word) {
				out[w] = true
			}
		} else if first == word {
			out[behind] = true
		}
	}
	return out
}

// words are those that may come next.
func (l ways) words() []string {
	out := []string{}
	for _, w := range strings.Fields("SELECT FROM WHERE GROUP BY ROLLUP CUBE GROUPING SETS COUNT SUM MIN MAX AND OR NOT IN ( ) , * = <> < <= > >= - name number string") {
		if len(l.next(w)) > 0 {
			out = append(out, w)
		}
	}
	return out
}

var least, greatest = big.NewInt(-1 << 63), big.NewInt(1<<63 - 1)

// fits tells whether a number is an int64, with what stands ahead of it.
func fits(words []api.Word, at int) bool {
	n, _ := new(big.Int).SetString(words[at].Text, 10)
	if words[at-1].Kind == api.Sign && words[at-1].Text == "-" {
		n.Neg(n)
	}
	return n.Cmp(least) >= 0 && n.Cmp(greatest) <= 0
}

// model tells what is wrong with a text's words by the grammar.
func model(text string) api.Fault {
	words, f := lex.Words(text)
	if f.Code != api.OK {
		return f
	}
	l := ways{"query": true}
	for i, w := range words {
		if l = l.next(symbol(w)); len(l) == 0 {
			return api.Fault{Code: api.ErrSyntax, At: w.At}
		}
		if w.Kind == api.Number && !fits(words, i) {
			return api.Fault{Code: api.ErrLong, At: w.At}
		}
	}
	return api.Fault{}
}

// chance draws numbers, the same ones for the same seed.
type chance uint64

func (c *chance) below(n int) int {
	*c = *c*6364136223846793005 + 1442695040888963407
	return int(uint64(*c) >> 33 % uint64(n))
}

func (c *chance) one(l ...string) string { return l[c.below(len(l))] }

// spelt is a word's text, one of several.
func (c *chance) spelt(symbol string) string {
	switch symbol {
	case "name":
		return c.one("a", "b", "_c9", "Sums", "m")
	case "number":
		return c.one("0", "1", "42", "9223372036854775807", "9223372036854775808", "9223372036854775809", "9999999999999999999")
	case "string":
		return c.one("''", "'x'", "'it''s'", "'SELECT'", "'='")
	}
	if c.below(2) == 0 {
		return strings.ToLower(symbol)
	}
	return symbol
}

// checkModel tells whether Parse finds just the faults of the model, apart from what is too many or too deep.
func checkModel(t *testing.T, text string) {
	t.Helper()
	q, f := Parse(text)
	is(t, text+": may it be", Right(q), f.Code == api.OK)
	if f == (api.Fault{Code: api.ErrMany}) || f == (api.Fault{Code: api.ErrDeep}) {
		f = api.Fault{}
	}
	is(t, text, f, model(text))
}

// All short sequences of words behind some beginnings.
func TestP101ModelShort(t *testing.T) {
	for _, c := range []struct {
		begin, words string
		most         int
	}{
		{"", "SELECT a FROM COUNT SUM ( ) * , WHERE GROUP 1 'x'", 4},
		{"SELECT ", "a , COUNT GROUPING ( ) * FROM f", 5},
		{"SELECT a FROM f ", "WHERE GROUP BY a = IN ( 1 ROLLUP", 5},
		{"SELECT a FROM f WHERE ", "a NOT AND ( ) = IN , - 9223372036854775808 'x'", 5},
		{"SELECT a FROM f WHERE (a = 1 ", "a OR ( ) < - 1 , AND GROUP", 5},
		{"SELECT a FROM f WHERE a IN (", "1 - , ) ( 'x' 9223372036854775809 OR", 5},
		{"SELECT a FROM f GROUP BY ", "a , ROLLUP CUBE GROUPING SETS ( )", 5},
		{"SELECT a FROM f GROUP BY GROUPING SETS(", "a , ( ) ROLLUP 1", 6},
	} {
		words := strings.Fields(c.words)
		texts := []string{c.begin}
		for range c.most {
			longer := []string{}
			for _, text := range texts {
				for _, w := range words {
					checkModel(t, text+w)
					// What can't go on needs no more words: its fault is told already.
					if f := model(text + w + " "); f.Code == api.OK || f.Code == api.ErrSyntax && f.At == len(text+w+" ") {
						longer = append(longer, text+w+" ")
					}
				}
			}
			texts = longer
		}
	}
}

// Long ones by chance, most of which go on as the grammar says, till some word is another one.
func TestP101ModelLong(t *testing.T) {
	for seed := range 3000 {
		c := chance(seed * 7919)
		l, text := ways{"query": true}, ""
		for range c.below(60) + 1 {
			may := l.words()
			if len(may) == 0 {
				break
			}
			word := may[c.below(len(may))]
			if c.below(40) == 0 {
				word = c.one("SELECT", "FROM", "GROUP", "BY", "(", ")", ",", "*", "-", "=", "name", "number", "string", "IN", "NOT", "AND", "SETS")
			}
			text += c.spelt(word) + c.one(" ", "\n", "  \t")
			if l = l.next(word); len(l) == 0 {
				text += c.one("", "a", "FROM f", ")", "1", "9999999999999999999")
				break
			}
		}
		checkModel(t, text)
	}
}

// written is a query and its text, in brackets and letters of chance.
type written struct {
	chance
	text strings.Builder
}

// say writes words with blanks between them, keywords in some letters.
func (w *written) say(words ...string) {
	for _, word := range words {
		mixed := []byte(word)
		for i, b := range mixed {
			if lex.IsKeyword(word) && 'A' <= b && b <= 'Z' && w.below(2) == 0 {
				mixed[i] += 'a' - 'A'
			}
		}
		w.text.WriteString(string(mixed) + w.one(" ", " ", "\t", "\r\n", "   "))
	}
}

// list makes so many, with commas between them.
func list[T any](w *written, n int, one func() T) []T {
	l := []T{}
	for i := range n {
		if i > 0 {
			w.say(",")
		}
		l = append(l, one())
	}
	return l
}

func (w *written) name() string {
	name := w.one("a", "b", "m", "_", "x1", "Facts", "selects")
	w.say(name)
	return name
}

func (w *written) value() api.Value {
	switch w.below(5) {
	case 0:
		s := w.one("", "x", "it's", "''", " a\n", "\x00\xff", "NOT", strings.Repeat("'", 9))
		w.say("'" + strings.ReplaceAll(s, "'", "''") + "'")
		return api.Value{IsText: true, Text: s}
	case 1:
		n := w.below(1000) + 1
		w.say("-", strconv.Itoa(n))
		return api.Value{Int: int64(-n)}
	case 2:
		w.say("-", "9223372036854775808")
		return api.Value{Int: -1 << 63}
	}
	n := w.below(1000)
	w.say(strconv.Itoa(n))
	return api.Value{Int: int64(n)}
}

func (w *written) item() api.Item {
	kind := w.below(6) + 1
	if kind == api.ItemColumn {
		return api.Item{Kind: kind, Column: w.name()}
	}
	w.say([]string{"COUNT", "SUM", "MIN", "MAX", "GROUPING"}[kind-2], "(")
	i := api.Item{Kind: kind}
	if kind == api.ItemCount {
		w.say("*")
	} else {
		i.Column = w.name()
	}
	w.say(")")
	return i
}

// part makes a condition within another one: a test, or one in brackets; the latter, if it must go deeper.
func (w *written) part(deeper bool, deep int) *api.Cond {
	n := w.below(3)
	if deeper {
		n = max(n, 1)
	}
	if n == 0 {
		return w.test()
	}
	w.say(many(n, "(")...)
	c := w.cond(deep)
	w.say(many(n, ")")...)
	return c
}

// cond makes a condition, each part of which that isn't a test has brackets.
func (w *written) cond(deep int) *api.Cond {
	if deep == 1 || w.below(4) == 0 {
		return w.test()
	}
	switch w.below(3) {
	case 0:
		w.say("NOT")
		return not(w.part(deep > 2, deep-1))
	case 1:
		left := w.part(deep > 2, deep-1)
		w.say("AND")
		return and(left, w.part(false, deep-1))
	}
	left := w.part(false, deep-1)
	w.say("OR")
	return or(left, w.part(deep > 2, deep-1))
}

func (w *written) test() *api.Cond {
	c := &api.Cond{Column: w.name()}
	if w.below(4) == 0 {
		w.say("IN", "(")
		c.Kind, c.Values = api.CondIn, list(w, w.below(6)+1, w.value)
		w.say(")")
		return c
	}
	c.Kind, c.Op = api.CondCompare, w.below(6)+1
	w.say([]string{"=", "<>", "<", "<=", ">", ">="}[c.Op-1])
	c.Values = []api.Value{w.value()}
	return c
}

func (w *written) names(least int) []string {
	w.say("(")
	l := list(w, w.below(4)+least, w.name)
	w.say(")")
	return l
}

func (w *written) set() []string {
	if w.below(3) == 0 {
		return []string{w.name()}
	}
	return w.names(0)
}

func (w *written) group() api.Group {
	g := api.Group{Kind: w.below(4) + 1}
	switch g.Kind {
	case api.GroupPlain:
		g.Columns = []string{w.name()}
	case api.GroupRollup:
		w.say("ROLLUP")
		g.Columns = w.names(1)
	case api.GroupCube:
		w.say("CUBE")
		g.Columns = w.names(1)
	case api.GroupSets:
		w.say("GROUPING", "SETS", "(")
		g.Sets = list(w, w.below(4)+1, w.set)
		w.say(")")
	}
	return g
}

func (w *written) query(deep int) api.Query {
	w.say("SELECT")
	q := api.Query{Items: list(w, w.below(5)+1, w.item)}
	w.say("FROM")
	q.Table = w.name()
	if w.below(4) > 0 {
		w.say("WHERE")
		q.Where = w.cond(deep)
	}
	if q.Grouped = w.below(2) == 0; q.Grouped {
		w.say("GROUP", "BY")
		q.Groups = list(w, w.below(4)+1, w.group)
	}
	return q
}

// inWords is a condition's text by the document's words: brackets around an OR within an AND or NOT, an AND within a NOT, an AND or OR that is the right one of its like.
func inWords(c *api.Cond, within int, right bool) string {
	s := ""
	switch c.Kind {
	case api.CondAnd:
		s = inWords(c.Left, api.CondAnd, false) + " AND " + inWords(c.Right, api.CondAnd, true)
	case api.CondOr:
		s = inWords(c.Left, api.CondOr, false) + " OR " + inWords(c.Right, api.CondOr, true)
	case api.CondNot:
		s = "NOT " + inWords(c.Left, api.CondNot, false)
	default:
		s = testText(c)
	}
	isOr := c.Kind == api.CondOr && (within == api.CondAnd || within == api.CondNot)
	isAnd := c.Kind == api.CondAnd && within == api.CondNot
	if isOr || isAnd || right && c.Kind == within {
		return "(" + s + ")"
	}
	return s
}

// checkShown tells whether a query is shown as the document says, and read again as the same.
func checkShown(t *testing.T, q api.Query) {
	t.Helper()
	s, e := Show(q)
	if e == api.ErrLong {
		return
	}
	is(t, s+": Show", e, api.OK)
	is(t, s+": its brackets", q.Where == nil || strings.Contains(s+" GROUP BY", " WHERE "+inWords(q.Where, 0, false)+" GROUP BY"), true)
	is(t, s, told(s), dump(q))
	is(t, s+": Same", Same(q, must(Parse(s))), true)
	again, e := Show(must(Parse(s)))
	is(t, s+": shown again", fmt.Sprint(again, int(e)), s+"0")
}

// A query is read from its text, whatever brackets and blanks are there; it is shown, and read again.
func TestP104ThereAndBack(t *testing.T) {
	for seed := range 20000 {
		w := &written{chance: chance(seed)}
		q := w.query(seed%9 + 1)
		is(t, w.text.String(), Right(q), true)
		checkShown(t, q)
		if text := w.text.String(); len(text) <= 4096 {
			is(t, text, told(text), dump(q))
		}
	}
}

// More brackets around a whole condition change nothing, nor do blanks.
func TestP104Brackets(t *testing.T) {
	for seed := range 2000 {
		w := &written{chance: chance(seed)}
		c := w.cond(seed%6 + 1)
		text := w.text.String()
		want := dump(where(c))
		for _, s := range []string{text, "(" + text + ")", "( ( (" + text + ") ) )\n"} {
			is(t, s, told("SELECT a FROM f WHERE "+s), want)
		}
	}
	for _, s := range []string{"SELECT a,COUNT(*)FROM f WHERE a='x'OR NOT(b<>-1)GROUP BY CUBE(a,b)", " SELECT\ta , COUNT ( * ) FROM f WHERE a = 'x' OR NOT ( b <> - 1 ) GROUP\r\nBY CUBE ( a , b ) "} {
		is(t, s, told(s), `[{1 a} {2 }] "f" (2 (4 "a" 1 "x") (3 (4 "b" 2 -1))) true 3["a" "b"][]`)
	}
}

// All shapes of conditions of up to four levels, some with a node in several places.
func TestP104Shapes(t *testing.T) {
	l := []*api.Cond{short("a"), in("b", text("x"), number(-1))}
	for range 2 {
		longer := l
		for _, a := range l {
			longer = append(longer, not(a))
			for _, b := range l {
				longer = append(longer, and(a, b), or(a, b))
			}
		}
		l = longer
	}
	for _, c := range l {
		checkShown(t, where(c))
	}
}
