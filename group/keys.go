package group

import (
	"iter"

	"caisson/api"
	"caisson/sets"
)

// keyed are the keys for a set, and the measures, of the facts that have one and are asked for.
func keyed(facts []api.Fact, where *api.Test, set int) iter.Seq2[[]string, []int64] {
	dims := sets.List(set)
	return func(yield func(key []string, numbers []int64) bool) {
		for _, f := range facts {
			if !hasAll(f, dims) || !meant(where, f) {
				continue
			}
			if !yield(textsAt(f.Dims, dims), f.Meas) {
				return
			}
		}
	}
}

// hasAll tells whether a fact has these dimensions, which rise.
func hasAll(f api.Fact, dims []int) bool {
	return len(dims) == 0 || dims[len(dims)-1] < len(f.Dims)
}

// textsAt are the texts at some places.
func textsAt(texts []string, places []int) []string {
	l := []string{}
	for _, at := range places {
		l = append(l, texts[at])
	}
	return l
}

// factOf is the fact that has a key's texts at these dimensions, and empty ones elsewhere.
func factOf(key []string, dims []int) api.Fact {
	texts := make([]string, api.MaxDims)
	for i := range min(len(key), len(dims)) {
		texts[dims[i]] = key[i]
	}
	return api.Fact{Dims: texts}
}
