package bind

import "caisson/api"

// test is a condition that may be, by its columns' numbers.
func (c columns) test(cond *api.Cond) (*api.Test, api.Errno) {
	if cond == nil {
		return nil, api.OK
	}
	if asks(cond.Kind) {
		return c.asking(cond)
	}
	left, e := c.test(cond.Left)
	if e != api.OK {
		return nil, e
	}
	right, e := c.test(cond.Right)
	if e != api.OK {
		return nil, e
	}
	return &api.Test{Kind: cond.Kind, Left: left, Right: right}, api.OK
}

// asks tells whether a test of that kind asks a column.
func asks(kind int) bool { return kind == api.CondCompare || kind == api.CondIn }

// asking is a condition that asks a column.
func (c columns) asking(cond *api.Cond) (*api.Test, api.Errno) {
	found, ok := c[cond.Column]
	if !ok {
		return nil, api.ErrName
	}
	t := &api.Test{Kind: cond.Kind, Meas: found.meas, Index: found.index, Op: cond.Op}
	if found.meas {
		t.Ints, ok = values(cond.Values, asInt)
	} else {
		t.Texts, ok = values(cond.Values, asText)
	}
	if !ok {
		return nil, api.ErrKind
	}
	return t, api.OK
}

// values are a condition's, all of the kind that is meant; false, if one of them is not.
func values[T int64 | string](l []api.Value, meant func(v api.Value) (T, bool)) ([]T, bool) {
	all := []T{}
	for _, v := range l {
		one, ok := meant(v)
		if !ok {
			return nil, false
		}
		all = append(all, one)
	}
	return all, true
}

func asInt(v api.Value) (int64, bool) { return v.Int, !v.IsText }

func asText(v api.Value) (string, bool) { return v.Text, v.IsText }
