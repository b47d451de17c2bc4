package sets

import (
	"fmt"
	"slices"
	"strings"
	"testing"

	"caisson/api"
)

// setsOf are an element's sets as texts of names: ROLLUP leaves out the last name, CUBE is that of the others with the first one, then without it.
func setsOf(g api.Group) []string {
	names := strings.Join(g.Columns, "")
	switch g.Kind {
	case api.GroupRollup:
		if len(names) == 0 {
			return []string{""}
		}
		return append([]string{names}, setsOf(api.Group{Kind: g.Kind, Columns: g.Columns[:len(names)-1]})...)
	case api.GroupCube:
		if len(names) == 0 {
			return []string{""}
		}
		l := []string{}
		rest := setsOf(api.Group{Kind: g.Kind, Columns: g.Columns[1:]})
		for _, set := range rest {
			l = append(l, names[:1]+set)
		}
		return append(l, rest...)
	case api.GroupSets:
		l := []string{}
		for _, set := range g.Sets {
			l = append(l, strings.Join(set, ""))
		}
		return l
	}
	return []string{names}
}

// number is a set of names as a number.
func number(dims, set string) int {
	n := 0
	for i := range dims {
		if strings.Contains(set, dims[i:i+1]) && strings.Index(dims, dims[i:i+1]) == i {
			n += []int{1, 2, 4, 8, 16, 32}[i]
		}
	}
	return n
}

// model is the list of elements, none of which is wrong: each number below the product tells a choice, its digits by the elements' numbers of sets, the last element's the lowest.
func model(dims string, l []api.Group) string {
	product, used := 1, ""
	for _, g := range l {
		product *= len(setsOf(g))
		used += strings.Join(append(setsOf(g), g.Columns...), "")
	}
	if strings.Trim(used, dims) != "" {
		return noName
	}
	if product > 64 {
		return tooMany
	}
	list := []int{}
	for n := range product {
		set, digits := "", n
		for i := len(l) - 1; i >= 0; i-- {
			own := setsOf(l[i])
			set += own[digits%len(own)]
			digits /= len(own)
		}
		list = append(list, number(dims, set))
	}
	return fmt.Sprint(list)
}

// checkModel holds what Expand says against the model, of some dimensions.
func checkModel(t *testing.T, l []api.Group, some ...string) {
	t.Helper()
	for _, dims := range some {
		if got, want := told(Expand(names(dims), l)), model(dims, l); got != want {
			t.Fatalf("%s, %v: %.300s, want %.300s", dims, l, got, want)
		}
	}
}

// All lists of up to four elements out of some.
func TestP111Model(t *testing.T) {
	elements := groups("a, c, x, R b, R ca, R aba, C a, C bc, C abc, S, S ., S b, S ab . c c, S a ax")
	lists := [][]api.Group{nil}
	for range 4 {
		longer := [][]api.Group{}
		for _, l := range lists {
			for _, g := range elements {
				longer = append(longer, append(slices.Clip(l), g))
				checkModel(t, longer[len(longer)-1], "abc", "cxba")
			}
		}
		lists = longer
	}
}

// All lists of up to four names in each kind of element, with names that come twice.
func TestP111ModelNames(t *testing.T) {
	texts := []string{""}
	for range 4 {
		longer := []string{}
		for _, s := range texts {
			for _, name := range names("abcdef") {
				longer = append(longer, s+name)
				for _, kind := range []string{"R ", "C ", "S . ", "d, S . b a e "} {
					checkModel(t, groups(kind+s+name), "abcdef", "fedcba", "bdabca")
				}
			}
		}
		texts = longer
	}
}

// What follows: ROLLUP, CUBE and a name are GROUPING SETS, also beside other elements.
func TestP113Same(t *testing.T) {
	for _, c := range [][2]string{
		{"R ab", "S ab a ."},
		{"C ab", "S ab a b ."},
		{"a", "S a"},
		{"R cba", "S cba cb c ."},
		{"C abc", "S abc ab ac a bc b c ."},
	} {
		for _, frame := range []string{"%s", "c, %s", "%s, R bc", "R ca, %s, C b", "S ., %s, S a b"} {
			a, b := fmt.Sprintf(frame, c[0]), fmt.Sprintf(frame, c[1])
			got := told(Expand(names("abc"), groups(a)))
			is(t, a+" as "+b, got, told(Expand(names("abc"), groups(b))))
			is(t, a+" is some list", strings.HasPrefix(got, "[") && got != "[]", true)
		}
	}
}

// A list has as many sets as the product of its elements' numbers.
func TestP113Product(t *testing.T) {
	for plain := range 3 {
		for rollup := range 9 {
			for cube := range 5 {
				for sets := range 9 {
					l := slices.Repeat(groups("a"), plain)
					want := 1
					if rollup > 0 {
						l, want = append(l, groups("R "+"abcabcab"[:rollup])...), want*(rollup+1)
					}
					if cube > 0 {
						l, want = append(l, groups("C "+"abca"[:cube])...), want<<cube
					}
					l, want = append(l, groups("S"+strings.Repeat(" b", sets))...), want*sets
					got, e := Expand(names("abc"), l)
					what := fmt.Sprint(l)
					if want > 64 {
						is(t, what, told(got, e), tooMany)
						continue
					}
					is(t, what, fmt.Sprint(len(got), int(e)), fmt.Sprint(want, 0))
				}
			}
		}
	}
}

// Of of List is the set, and List of Of is what rises, once each.
func TestP113ThereAndBack(t *testing.T) {
	for set := range 64 {
		is(t, fmt.Sprint("Of of List of ", set), Of(List(set)...), set)
		twice := append(List(set), List(set)...)
		slices.Reverse(twice)
		is(t, fmt.Sprint("Of of List twice of ", set), Of(twice...), set)
		is(t, fmt.Sprint("Names of ", set), len(Names(names("abcdef"), set)), len(List(set)))
	}
	for _, text := range []string{"C abc", "R cab, C b"} {
		l, _ := Expand(names("abc"), groups(text))
		for _, set := range l {
			g := api.Group{Kind: api.GroupSets, Sets: [][]string{Names(names("abc"), set)}}
			is(t, text+" by its names", told(Expand(names("abc"), []api.Group{g})), fmt.Sprint([]int{set}))
		}
	}
}
