// Package level implements layer 1: maxima of a constant and of variables plus offsets.
package level

import (
	"iter"
	"slices"

	"euclid/api"
)

// minIndex is the index of the last metavariable, number 65535.
const minIndex = -65536

// Valid reports whether a level is valid.
func Valid(l api.Level) bool {
	if !inRange(l.Const, 0, api.MaxLevel) {
		return false
	}
	for i, v := range l.Vars {
		if !inRange(v.Index, minIndex, api.MaxParams-1) || !inRange(v.Plus, 0, api.MaxLevel) {
			return false
		}
		if i > 0 && l.Vars[i-1].Index >= v.Index {
			return false
		}
	}
	return l.Const == 0 || !covered(l.Const, l.Vars)
}

// Of returns the level n.
func Of(n int) (api.Level, api.Errno) {
	if n < 0 {
		return api.Level{}, api.ErrRange
	}
	if n > api.MaxLevel {
		return api.Level{}, api.ErrLevel
	}
	return api.Level{Const: n}, api.OK
}

// Var returns the level with one variable and its offset.
func Var(index, plus int) (api.Level, api.Errno) {
	if !inRange(index, minIndex, api.MaxParams-1) || plus < 0 {
		return api.Level{}, api.ErrRange
	}
	if plus > api.MaxLevel {
		return api.Level{}, api.ErrLevel
	}
	return api.Level{Vars: []api.LevelVar{{Index: index, Plus: plus}}}, api.OK
}

// Plus returns the level whose value is n more.
func Plus(l api.Level, n int) (api.Level, api.Errno) {
	if !Valid(l) {
		return api.Level{}, api.ErrForm
	}
	if n < 0 {
		return api.Level{}, api.ErrRange
	}
	// Not least(l)+n > MaxLevel: that sum may overflow.
	if n > api.MaxLevel-least(l) {
		return api.Level{}, api.ErrLevel
	}
	vars := slices.Clone(l.Vars)
	for i := range vars {
		vars[i].Plus += n
	}
	return canonical(l.Const+n, vars), api.OK
}

// Max returns the maximum of two levels.
func Max(a, b api.Level) (api.Level, api.Errno) {
	if !Valid(a) || !Valid(b) {
		return api.Level{}, api.ErrForm
	}
	var vars []api.LevelVar
	for v := range merged(a.Vars, b.Vars) {
		vars = append(vars, v)
	}
	return canonical(max(a.Const, b.Const), vars), api.OK
}

// Leq reports whether a is at most b for all values of the variables.
func Leq(a, b api.Level) bool {
	if !Valid(a) || !Valid(b) || a.Const > least(b) {
		return false
	}
	// A variable can exceed everything that does not contain it, so each
	// variable of a is at most b only by the same variable of b.
	for _, v := range a.Vars {
		i, ok := slices.BinarySearchFunc(b.Vars, v.Index, compareIndex)
		if !ok || b.Vars[i].Plus < v.Plus {
			return false
		}
	}
	return true
}

// Same reports whether two levels are equal field by field.
func Same(a, b api.Level) bool {
	return a.Const == b.Const && slices.Equal(a.Vars, b.Vars)
}

// Params returns one more than the greatest parameter of a level.
func Params(l api.Level) int {
	if !Valid(l) || len(l.Vars) == 0 {
		return 0
	}
	return max(0, l.Vars[len(l.Vars)-1].Index+1)
}

// Metas returns the numbers of the metavariables of a level in ascending order.
func Metas(l api.Level) []int {
	if !Valid(l) {
		return nil
	}
	var metas []int
	for _, v := range slices.Backward(l.Vars) {
		if v.Index < 0 {
			metas = append(metas, -1-v.Index)
		}
	}
	return metas
}

func inRange(n, low, high int) bool { return low <= n && n <= high }

func compareIndex(v api.LevelVar, index int) int { return v.Index - index }

// covered reports whether a constant adds nothing to the maximum of variables.
func covered(constant int, vars []api.LevelVar) bool {
	return slices.ContainsFunc(vars, func(v api.LevelVar) bool { return v.Plus >= constant })
}

// canonical returns the valid level of a constant and of ascending variables.
func canonical(constant int, vars []api.LevelVar) api.Level {
	if covered(constant, vars) {
		constant = 0
	}
	return api.Level{Const: constant, Vars: vars}
}

// least returns the value of a level when all variables are 0, which is also its greatest number.
func least(l api.Level) int {
	value := l.Const
	for _, v := range l.Vars {
		value = max(value, v.Plus)
	}
	return value
}

// merged yields the variables of two ascending lists in ascending order; one that occurs in both gets the greater offset.
func merged(a, b []api.LevelVar) iter.Seq[api.LevelVar] {
	return func(yield func(api.LevelVar) bool) {
		i, j := 0, 0
		for i < len(a) || j < len(b) {
			var v api.LevelVar
			switch {
			case j == len(b) || i < len(a) && a[i].Index < b[j].Index:
				v = a[i]
				i++
			case i == len(a) || b[j].Index < a[i].Index:
				v = b[j]
				j++
			default:
				v = api.LevelVar{Index: a[i].Index, Plus: max(a[i].Plus, b[j].Plus)}
				i++
				j++
			}
			if !yield(v) {
				return
			}
		}
	}
}
