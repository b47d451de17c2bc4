package bind

import (
	"strconv"

	"caisson/api"
)

// key is laid down part by part, so that no part can be taken for another one: a number has an end, a text and a list have their lengths ahead, a test tells first whether it is there.
type key struct{ data []byte }

func (k *key) wide(n int64) { k.data = append(strconv.AppendInt(k.data, n, 10), ' ') }

func (k *key) number(n int) { k.wide(int64(n)) }

func (k *key) text(s string) {
	k.number(len(s))
	k.data = append(k.data, s...)
}

func (k *key) pick(p api.Pick) {
	k.number(p.Kind)
	k.number(p.Index)
}

// What stands ahead of a test.
const (
	noTest = iota
	ofDim
	ofMeas
)

func (k *key) test(t *api.Test) {
	if t == nil {
		k.number(noTest)
		return
	}
	if t.Meas {
		k.number(ofMeas)
	} else {
		k.number(ofDim)
	}
	k.number(t.Kind)
	k.number(t.Index)
	k.number(t.Op)
	list(k, t.Texts, k.text)
	list(k, t.Ints, k.wide)
	k.test(t.Left)
	k.test(t.Right)
}

// list lays down how many there are, and each.
func list[T any](k *key, l []T, one func(v T)) {
	k.number(len(l))
	for _, v := range l {
		one(v)
	}
}
