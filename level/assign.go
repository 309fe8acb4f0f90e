package level

import (
	"maps"
	"slices"

	"euclid/api"
)

// maxValue is the greatest value of a parameter in Eval.
const maxValue = 1000000

// offsets maps the index of each variable to its offset.
type offsets map[int]int

func (o offsets) raise(index, plus int) {
	o[index] = max(o[index], plus)
}

func (o offsets) vars() []api.LevelVar {
	var vars []api.LevelVar
	for _, index := range slices.Sorted(maps.Keys(o)) {
		vars = append(vars, api.LevelVar{Index: index, Plus: o[index]})
	}
	return vars
}

// collector collects the maximum of levels.
type collector struct {
	offsets
	constant int
}

func newCollector() collector { return collector{offsets: offsets{}} }

func (c *collector) add(l api.Level) {
	c.constant = max(c.constant, l.Const)
	for _, v := range l.Vars {
		c.raise(v.Index, v.Plus)
	}
}

func (c *collector) level() api.Level { return canonical(c.constant, c.vars()) }

// Subst replaces each parameter i by params[i].
func Subst(l api.Level, params []api.Level) (api.Level, api.Errno) {
	if !Valid(l) || !allValid(params) {
		return api.Level{}, api.ErrForm
	}
	if Params(l) > len(params) {
		return api.Level{}, api.ErrScope
	}
	return replace(l, func(index int) (api.Level, bool) {
		if index < 0 {
			return api.Level{}, false
		}
		return params[index], true
	})
}

// Assign replaces each metavariable i for which there is an element metas[i] by this.
func Assign(l api.Level, metas []api.Level) (api.Level, api.Errno) {
	if !Valid(l) || !allValid(metas) {
		return api.Level{}, api.ErrForm
	}
	return replace(l, func(index int) (api.Level, bool) {
		if index >= 0 || -1-index >= len(metas) {
			return api.Level{}, false
		}
		return metas[-1-index], true
	})
}

// Eval returns the value of a level for values of the parameters.
func Eval(l api.Level, params []int) (int, api.Errno) {
	if !Valid(l) {
		return 0, api.ErrForm
	}
	for _, value := range params {
		if !inRange(value, 0, maxValue) {
			return 0, api.ErrRange
		}
	}
	if len(l.Vars) > 0 && l.Vars[0].Index < 0 {
		return 0, api.ErrMeta
	}
	if Params(l) > len(params) {
		return 0, api.ErrScope
	}
	value := l.Const
	for _, v := range l.Vars {
		value = max(value, params[v.Index]+v.Plus)
	}
	return value, api.OK
}

func allValid(levels []api.Level) bool {
	for _, l := range levels {
		if !Valid(l) {
			return false
		}
	}
	return true
}

// replace puts levels in the place of the variables for which value returns one.
func replace(l api.Level, value func(index int) (api.Level, bool)) (api.Level, api.Errno) {
	result := newCollector()
	result.constant = l.Const
	for _, v := range l.Vars {
		with, ok := value(v.Index)
		if !ok {
			result.raise(v.Index, v.Plus)
			continue
		}
		sum, err := Plus(with, v.Plus)
		if err != api.OK {
			return api.Level{}, err
		}
		result.add(sum)
	}
	return result.level(), api.OK
}
