// Package universe implements layer 2: it solves and decides systems of bounds between levels.
package universe

import (
	"iter"

	"euclid/api"
	"euclid/level"
)

// Check returns 0 and OK if all bounds are valid and have only metavariables less than metas.
func Check(metas int, bounds []api.Bound) (int, api.Errno) {
	if metas < 0 || metas > api.MaxMetas {
		return 0, api.ErrRange
	}
	for i, b := range bounds {
		if !level.Valid(b.Low) || !level.Valid(b.High) {
			return i, api.ErrForm
		}
		if metaCount(b.Low) > metas || metaCount(b.High) > metas {
			return i, api.ErrScope
		}
	}
	return 0, api.OK
}

// Holds reports whether all bounds hold for the values.
func Holds(values []api.Level, bounds []api.Bound) (bool, api.Errno) {
	for _, v := range values {
		if !level.Valid(v) || metaCount(v) > 0 {
			return false, api.ErrForm
		}
	}
	if _, err := Check(len(values), bounds); err != api.OK {
		return false, err
	}
	all := true
	for _, b := range bounds {
		low, err := assign(b.Low, values)
		if err != api.OK {
			return false, err
		}
		high, err := assign(b.High, values)
		if err != api.OK {
			return false, err
		}
		// A later bound may still have an error, which comes before the answer.
		all = all && level.Leq(low, high)
	}
	return all, api.OK
}

// parts yields the parts of a level.
func parts(l api.Level) iter.Seq[api.Level] {
	return func(yield func(api.Level) bool) {
		if l.Const > 0 || len(l.Vars) == 0 {
			if !yield(api.Level{Const: l.Const}) {
				return
			}
		}
		for _, v := range l.Vars {
			if !yield(api.Level{Vars: []api.LevelVar{v}}) {
				return
			}
		}
	}
}

// metaCount returns one more than the greatest metavariable of a valid level.
func metaCount(l api.Level) int {
	if len(l.Vars) == 0 {
		return 0
	}
	return max(0, -l.Vars[0].Index)
}

// assign does what level.Assign does with values for all metavariables, but
// looks at the values of this level's metavariables only.
func assign(l api.Level, values []api.Level) (api.Level, api.Errno) {
	var result api.Level
	for part := range parts(l) {
		if metaCount(part) > 0 {
			v := part.Vars[0]
			sum, err := level.Plus(values[-1-v.Index], v.Plus)
			if err != api.OK {
				return api.Level{}, err
			}
			part = sum
		}
		result, _ = level.Max(result, part)
	}
	return result, api.OK
}
