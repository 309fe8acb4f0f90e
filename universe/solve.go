package universe

import (
	"euclid/api"
	"euclid/level"
)

// Solve returns the least values that a sequence of passes over the bounds
// leads to, 0 and OK; or no values, the index of a bound and an error.
func Solve(metas int, bounds []api.Bound) ([]api.Level, int, api.Errno) {
	if i, err := Check(metas, bounds); err != api.OK {
		return nil, i, err
	}
	s := newSolver(metas, bounds)
	quiet := 0 // bounds in a row, over the end of a pass, at which nothing was raised
passes:
	for len(bounds) > 0 {
		for i := range bounds {
			raised, err := s.visit(i)
			if err != api.OK {
				return nil, i, err
			}
			quiet++
			if raised {
				quiet = 0
			}
			if quiet == len(bounds) {
				break passes
			}
		}
	}
	return s.values, 0, api.OK
}

// solver keeps the values of the metavariables during the passes. A bound is
// settled if no value that it depends on has changed since it was visited:
// then another visit would change nothing, and is left out.
type solver struct {
	bounds  []api.Bound
	values  []api.Level
	users   [][]int // for each metavariable the bounds that contain it
	settled []bool
}

func newSolver(metas int, bounds []api.Bound) *solver {
	s := &solver{
		bounds:  bounds,
		values:  make([]api.Level, metas),
		users:   make([][]int, metas),
		settled: make([]bool, len(bounds)),
	}
	for i, b := range bounds {
		for _, l := range []api.Level{b.Low, b.High} {
			for _, m := range level.Metas(l) {
				s.users[m] = append(s.users[m], i)
			}
		}
	}
	return s
}

// visit reports whether it raised a value.
func (s *solver) visit(i int) (bool, api.Errno) {
	if s.settled[i] {
		return false, api.OK
	}
	s.settled[i] = true
	low, err := assign(s.bounds[i].Low, s.values)
	if err != api.OK {
		return false, err
	}
	raised := false
	for part := range parts(low) {
		high, err := assign(s.bounds[i].High, s.values)
		if err != api.OK {
			return false, err
		}
		if level.Leq(part, high) {
			continue
		}
		target, ok := leastMeta(s.bounds[i].High)
		if !ok {
			return false, api.ErrLevel
		}
		s.raise(-1-target.Index, minus(part, target.Plus))
		raised = true
	}
	return raised, api.OK
}

// raise makes the value of a metavariable at least l. Both are valid and
// within the limits, and so is their maximum.
func (s *solver) raise(meta int, l api.Level) {
	s.values[meta], _ = level.Max(s.values[meta], l)
	for _, user := range s.users[meta] {
		s.settled[user] = false
	}
}

// leastMeta returns the metavariable with the least number, which has the
// greatest negative index.
func leastMeta(l api.Level) (api.LevelVar, bool) {
	for i := len(l.Vars) - 1; i >= 0; i-- {
		if l.Vars[i].Index < 0 {
			return l.Vars[i], true
		}
	}
	return api.LevelVar{}, false
}

// minus returns a part minus k, where a constant or an offset is at least 0.
func minus(part api.Level, k int) api.Level {
	if len(part.Vars) == 0 {
		return api.Level{Const: max(0, part.Const-k)}
	}
	v := part.Vars[0]
	return api.Level{Vars: []api.LevelVar{{Index: v.Index, Plus: max(0, v.Plus-k)}}}
}
