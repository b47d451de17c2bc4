package sets

import (
	"slices"

	"caisson/api"
)

// own are the sets of single names, each of which is among dims.
func own(dims, names []string) []int {
	l := []int{}
	for _, name := range names {
		l = append(l, Of(slices.Index(dims, name)))
	}
	return l
}

// union is the set of all that is in some of sets.
func union(sets ...int) int {
	all := 0
	for _, set := range sets {
		all |= set
	}
	return all
}

func rollup(names []int) []int {
	l := []int{}
	for n := len(names); n >= 0; n-- {
		l = append(l, union(names[:n]...))
	}
	return l
}

func cube(names []int) []int {
	l := []int{}
	for bits := 1<<len(names) - 1; bits >= 0; bits-- {
		l = append(l, union(chosen(names, bits)...))
	}
	return l
}

// chosen are the names whose bit is 1, the first name's being the highest.
func chosen(names []int, bits int) []int {
	l := []int{}
	for i, set := range names {
		if bits>>(len(names)-1-i)&1 == 1 {
			l = append(l, set)
		}
	}
	return l
}

// cross is the list of groups that have not too many sets, and each some.
func cross(dims []string, groups []api.Group) []int {
	// A set that is without choice is in each union, so it waits for no turn. Of elements with a choice there are few, or there were too many sets: choose never goes deep.
	always, choices := 0, [][]int{}
	for _, g := range groups {
		if l := elementSets(dims, g); len(l) == 1 {
			always = union(always, l[0])
		} else {
			choices = append(choices, l)
		}
	}
	list := []int{}
	var choose func(set, at int)
	choose = func(set, at int) {
		if at == len(choices) {
			list = append(list, set)
			return
		}
		for _, one := range choices[at] {
			choose(union(set, one), at+1)
		}
	}
	choose(always, 0)
	return list
}
