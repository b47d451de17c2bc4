package parse

import "caisson/api"

// reader goes through the words of a text as the grammar says, and gives up where it can't go on.
type reader struct {
	words []api.Word
	at    int
	many  bool // there are more of something than may be
}

// meant tells whether a word is one that may stand there.
type meant func(w api.Word) bool

// of means the words of a kind.
func of(kind int) meant {
	return func(w api.Word) bool { return w.Kind == kind }
}

// says means a keyword or a sign, not a text in quotes that says the same.
func says(text string) meant {
	return func(w api.Word) bool { return isFixed(w) && w.Text == text }
}

// among means the keywords or signs that stand in a table.
func among(t table) meant {
	return func(w api.Word) bool { return isFixed(w) && t.place(w.Text) > 0 }
}

// isFixed tells whether a word is one of the grammar's own.
func isFixed(w api.Word) bool { return w.Kind == api.Keyword || w.Kind == api.Sign }

// sees tells whether the next word is meant.
func (r *reader) sees(m meant) bool { return m(r.words[r.at]) }

// takes goes over the next word, if it is meant.
func (r *reader) takes(m meant) bool {
	if !r.sees(m) {
		return false
	}
	r.at++
	return true
}

// need goes over the next word, which must be meant.
func (r *reader) need(m meant) api.Word {
	w := r.words[r.at]
	if !r.takes(m) {
		giveUp(api.ErrSyntax, w.At)
	}
	return w
}

// needAll goes over keywords and signs, which must stand there one behind the other.
func (r *reader) needAll(texts ...string) {
	for _, text := range texts {
		r.need(says(text))
	}
}

// name goes over a name.
func (r *reader) name() string { return r.need(of(api.Name)).Text }

// listed goes over one or more, with commas between; where they are too many, that is told only later.
func listed[T any](r *reader, most int, one func() T) []T {
	l := []T{one()}
	for r.takes(says(",")) {
		l = append(l, one())
	}
	r.many = r.many || len(l) > most
	return l
}

// giveUp ends the reading with a fault.
func giveUp(e api.Errno, at int) { panic(api.Fault{Code: e, At: at}) }

// cause is the fault that was given up with; what else went wrong goes on.
func cause(given any) api.Fault {
	f, ok := given.(api.Fault)
	if !ok {
		panic(given)
	}
	return f
}
