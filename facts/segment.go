package facts

import "caisson/api"

// segment has so many facts, a column for each dimension and for each measure.
type segment struct {
	dims []values
	meas []numbers
}

// values are a dimension's numbers of its dictionary, which are all below MaxDict.
type values [api.Segment]uint16

// numbers are a measure's.
type numbers [api.Segment]int64

// count is how many places from low on, below high, have a value.
func (v values) count(value, low, high int) int {
	many := 0
	for _, n := range v[low:high] {
		if int(n) == value {
			many++
		}
	}
	return many
}

// lay puts a fact that may be at a place, which is the one behind all others.
func (s *Store) lay(place int, f api.Fact) {
	at := place % api.Segment
	if at == 0 {
		s.segments = append(s.segments, segment{make([]values, len(s.dicts)), make([]numbers, s.meas)})
	}
	g := s.segments[place/api.Segment]
	for dim, text := range f.Dims {
		n, _ := s.dicts[dim].Put(text)
		g.dims[dim][at] = uint16(n)
	}
	for i, n := range f.Meas {
		g.meas[i][at] = n
	}
}

// pieces goes over the places from low on, below high, segment by segment: do is told each, and from where up to where it is meant.
func (s *Store) pieces(low, high int, do func(g segment, low, high int)) {
	for low < high {
		at := low % api.Segment
		many := min(high-low, api.Segment-at)
		do(s.segments[low/api.Segment], at, at+many)
		low += many
	}
}

// rows are the facts of a segment from low on, below high; each column is copied out, and told from the copy.
func (s *Store) rows(g segment, low, high int) []api.Fact {
	l := make([]api.Fact, high-low)
	for i := range l {
		l[i] = api.Fact{Dims: make([]string, len(s.dicts)), Meas: make([]int64, s.meas)}
	}
	for dim, column := range g.dims {
		for i := range l {
			l[i].Dims[dim], _ = s.dicts[dim].Text(int(column[low+i]))
		}
	}
	for m, column := range g.meas {
		for i := range l {
			l[i].Meas[m] = column[low+i]
		}
	}
	return l
}
