package universe_test

import (
	"math"
	"strings"
	"testing"

	"euclid/api"
	"euclid/level"
	"euclid/universe"
)

// lv reads a level that has to be correct.
func lv(t *testing.T, s string) api.Level {
	t.Helper()
	l, err := level.Parse(s)
	if err != api.OK {
		t.Fatalf("Parse(%q): error %d", s, err)
	}
	return l
}

func lvs(t *testing.T, texts ...string) []api.Level {
	t.Helper()
	var levels []api.Level
	for _, s := range texts {
		levels = append(levels, lv(t, s))
	}
	return levels
}

// bounds reads bounds of the form "LOW <= HIGH".
func bounds(t *testing.T, texts ...string) []api.Bound {
	t.Helper()
	var all []api.Bound
	for _, s := range texts {
		low, high, ok := strings.Cut(s, "<=")
		if !ok {
			t.Fatalf("%q is not a bound", s)
		}
		all = append(all, api.Bound{Low: lv(t, low), High: lv(t, high)})
	}
	return all
}

func sameLevels(a, b []api.Level) bool {
	if len(a) != len(b) {
		return false
	}
	for i := range a {
		if !level.Same(a[i], b[i]) {
			return false
		}
	}
	return true
}

// notValid returns bounds one side of which is not a valid level.
func notValid() []api.Bound {
	bad := api.Level{Const: 1, Vars: []api.LevelVar{{Index: 0, Plus: 1}}}
	return []api.Bound{{Low: bad}, {High: bad}, {Low: api.Level{Const: 101}}, {High: api.Level{Const: -1}}}
}

// P2.1
func TestCheck(t *testing.T) {
	for _, x := range []struct {
		metas  int
		bounds []api.Bound
		index  int
		err    api.Errno
	}{
		{0, nil, 0, api.OK},
		{2000, bounds(t, "?1999 <= u7"), 0, api.OK},
		{2, bounds(t, "u0 <= ?0", "max(3, ?0, ?1 + 1) <= ?1"), 0, api.OK},
		{-1, bounds(t, "?0 <= 1"), 0, api.ErrRange},
		{2001, bounds(t, "?0 <= 1"), 0, api.ErrRange},
		{math.MaxInt, notValid(), 0, api.ErrRange},
		{0, bounds(t, "?0 <= 1"), 0, api.ErrScope},
		{1, bounds(t, "u0 <= ?0", "0 <= max(u0, ?1)"), 1, api.ErrScope},
		{2, bounds(t, "max(?0, ?2) <= ?0"), 0, api.ErrScope},
		{1, append(bounds(t, "?0 <= 1", "?1 <= 1"), notValid()...), 1, api.ErrScope},
		{1, append(notValid(), bounds(t, "?1 <= 1")...), 0, api.ErrForm},
		{0, []api.Bound{{Low: lv(t, "?0"), High: api.Level{Const: 101}}}, 0, api.ErrForm},
	} {
		if i, err := universe.Check(x.metas, x.bounds); i != x.index || err != x.err {
			t.Errorf("Check(%d, %v): got %d, error %d, want %d, error %d", x.metas, x.bounds, i, err, x.index, x.err)
		}
		if x.err == api.OK {
			continue
		}
		if values, i, err := universe.Solve(x.metas, x.bounds); values != nil || i != x.index || err != x.err {
			t.Errorf("Solve(%d, %v): got %v, %d, error %d, want %d, error %d", x.metas, x.bounds, values, i, err, x.index, x.err)
		}
	}
	for _, b := range notValid() {
		if i, err := universe.Check(0, append(bounds(t, "0 <= 0"), b)); i != 1 || err != api.ErrForm {
			t.Errorf("Check with %v: got %d, error %d", b, i, err)
		}
	}
}

// P2.1
func TestSolve(t *testing.T) {
	for _, x := range []struct {
		metas  int
		bounds []api.Bound
		want   []api.Level
	}{
		{0, nil, nil},
		{3, nil, lvs(t, "0", "0", "0")},
		{0, bounds(t, "u0 <= u0 + 1", "3 <= max(3, u2)"), nil},
		{2, bounds(t, "u0 <= ?0", "2 <= ?0 + 1", "?0 + 1 <= ?1"), lvs(t, "max(1, u0)", "max(2, u0 + 1)")},
		{2, bounds(t, "?0 + 1 <= ?1", "2 <= ?0 + 1", "u0 <= ?0"), lvs(t, "max(1, u0)", "max(2, u0 + 1)")},
		{1, bounds(t, "u0 + 3 <= ?0 + 5"), lvs(t, "u0")},
		{1, bounds(t, "max(7, u0 + 6) <= ?0 + 2"), lvs(t, "max(5, u0 + 4)")},
		{2, bounds(t, "u1 + 3 <= max(?0 + 5, ?1 + 1)"), lvs(t, "u1", "0")},
		{2, bounds(t, "u1 <= ?1", "u1 + 3 <= max(?0, ?1 + 4)"), lvs(t, "0", "u1")},
		{2, bounds(t, "100 <= ?1 + 100", "?1 + 100 <= ?0"), lvs(t, "100", "0")},
		{2, bounds(t, "?0 <= ?1", "?1 <= ?0", "max(3, u0) <= ?1"), lvs(t, "max(3, u0)", "max(3, u0)")},
		{2, bounds(t, "max(2, ?0) <= max(?0 + 1, ?1)"), lvs(t, "1", "0")},
		{2, bounds(t, "max(2, ?1 + 1) <= ?0", "max(u3, u4 + 1) <= ?1"), lvs(t, "max(2, u3 + 1, u4 + 2)", "max(u3, u4 + 1)")},
	} {
		if values, i, err := universe.Solve(x.metas, x.bounds); err != api.OK || i != 0 || !sameLevels(values, x.want) {
			t.Errorf("Solve(%d, %v): got %v, %d, error %d, want %v", x.metas, x.bounds, values, i, err, x.want)
		}
	}
}

// P2.1
func TestSolveFails(t *testing.T) {
	for _, x := range []struct {
		metas  int
		bounds []api.Bound
		index  int
	}{
		{0, bounds(t, "1 <= 1", "1 <= u0"), 1},
		{1, bounds(t, "?0 + 1 <= ?0"), 0},
		{2, bounds(t, "u0 <= ?0", "2 <= ?0 + 1", "?0 + 1 <= ?1", "?1 <= 1"), 3},
		{2, bounds(t, "?0 <= 1", "1 <= ?0", "2 <= ?0"), 0},
		{2, bounds(t, "0 <= ?1", "100 <= ?0", "?0 + 1 <= ?1"), 2},
		{2, bounds(t, "0 <= ?0 + 1", "100 <= ?0"), 0},
		{2, bounds(t, "?1 <= ?0", "?0 + 1 <= ?1", "u0 <= ?0"), 1},
		{1, bounds(t, "u0 + 100 <= ?0", "max(?0 + 1, u1) <= u1"), 1},
	} {
		if values, i, err := universe.Solve(x.metas, x.bounds); err != api.ErrLevel || i != x.index || values != nil {
			t.Errorf("Solve(%d, %v): got %v, %d, error %d, want %d", x.metas, x.bounds, values, i, err, x.index)
		}
	}
}

// P2.1
func TestHolds(t *testing.T) {
	all := bounds(t, "u0 <= ?0", "2 <= ?0 + 1", "?0 + 1 <= ?1")
	for _, x := range []struct {
		values []api.Level
		bounds []api.Bound
		want   bool
		err    api.Errno
	}{
		{nil, nil, true, api.OK},
		{lvs(t, "max(1, u0)", "max(2, u0 + 1)"), all, true, api.OK},
		{lvs(t, "u0 + 1", "max(5, u0 + 9, u1)"), all, true, api.OK},
		{lvs(t, "u0", "9"), all, false, api.OK},
		{lvs(t, "u0", "9"), all[:1], true, api.OK},
		{nil, bounds(t, "u0 <= 3"), false, api.OK},
		{lvs(t, "?0"), all, false, api.ErrForm},
		{[]api.Level{{Const: 101}, {}}, notValid(), false, api.ErrForm},
		{lvs(t, "1", "1"), append(all, notValid()...), false, api.ErrForm},
		{lvs(t, "1"), all, false, api.ErrScope},
		{make([]api.Level, 2001), nil, false, api.ErrRange},
		{make([]api.Level, 2000), bounds(t, "?1999 <= 0"), true, api.OK},
		{lvs(t, "100", "0"), all, false, api.ErrLevel},
		{lvs(t, "100"), bounds(t, "1 <= 0", "0 <= ?0 + 1"), false, api.ErrLevel},
		{lvs(t, "100"), bounds(t, "1 <= 0", "?0 + 1 <= 0"), false, api.ErrLevel},
	} {
		if got, err := universe.Holds(x.values, x.bounds); got != x.want || err != x.err {
			t.Errorf("Holds(%v, %v): got %v, error %d, want %v, error %d", x.values, x.bounds, got, err, x.want, x.err)
		}
	}
}

// P2.2
func TestEntails(t *testing.T) {
	for _, x := range []struct {
		from []api.Bound
		b    string
		want bool
	}{
		{nil, "u0 <= max(u0, u1 + 2)", true},
		{nil, "3 <= u0 + 2", false},
		{nil, "0 <= u0", true},
		{nil, "u0 <= 100", false},
		{nil, "max(2, u0 + 1) <= max(2, u0 + 1)", true},
		{nil, "max(3, u0) <= max(2, u0 + 1)", false},
		{bounds(t, "u0 + 1 <= u1", "u1 <= 3"), "u0 <= 2", true},
		{bounds(t, "u0 + 1 <= u1", "u1 <= 3"), "u0 <= 1", false},
		{bounds(t, "u0 + 1 <= u1", "u1 <= 3"), "1 <= u1", true},
		{bounds(t, "u0 + 1 <= u1", "u1 <= 3"), "max(u0 + 1, u1) <= max(1, u1)", true},
		{bounds(t, "u0 + 1 <= u0"), "5 <= 0", true},
		{bounds(t, "u0 + 1 <= u1", "u1 <= u2", "u2 <= u0"), "u7 <= 0", true},
		{bounds(t, "3 <= 2"), "u7 <= 0", true},
		{bounds(t, "2 <= 2"), "u7 <= 0", false},
		{bounds(t, "u0 + 1 <= 0"), "100 <= u1", true},
		{bounds(t, "max(4, u1 + 2) <= u0 + 1"), "max(3, u1 + 1) <= u0", true},
		{bounds(t, "max(4, u1 + 2) <= u0 + 1"), "max(3, u1 + 2) <= u0", false},
		{bounds(t, "2 <= u0", "u1 <= 2"), "u1 <= u0", true},
		{bounds(t, "2 <= u0", "u1 <= 3"), "u1 <= u0", false},
		{bounds(t, "u0 <= u1", "u1 <= u2", "u2 <= u3", "u3 <= u4", "u4 <= u5", "u5 <= u6", "u6 <= u7"), "u0 <= u7", true},
		{bounds(t, "u7 <= u6", "u6 <= u5", "u5 <= u4", "u4 <= u3", "u3 <= u2", "u2 <= u1", "u1 <= u0"), "u0 <= u7", false},
	} {
		if got, err := universe.Entails(x.from, bounds(t, x.b)[0]); got != x.want || err != api.OK {
			t.Errorf("%s from %v: got %v, error %d", x.b, x.from, got, err)
		}
	}
}

// P2.2
func TestEntailsRefuses(t *testing.T) {
	meta, two, one := bounds(t, "?0 <= 1"), bounds(t, "0 <= max(2, u0)"), bounds(t, "0 <= 0")[0]
	for _, x := range []struct {
		from []api.Bound
		b    api.Bound
		want api.Errno
	}{
		{meta, one, api.ErrMeta},
		{bounds(t, "0 <= ?0"), one, api.ErrMeta},
		{nil, meta[0], api.ErrMeta},
		{nil, api.Bound{High: lv(t, "?9")}, api.ErrMeta},
		{two, meta[0], api.ErrMeta},
		{two, one, api.ErrArg},
		{bounds(t, "0 <= max(u0, u1)"), one, api.ErrArg},
		{bounds(t, "3 <= 2", "0 <= max(2, u0)"), one, api.ErrArg},
	} {
		if got, err := universe.Entails(x.from, x.b); got || err != x.want {
			t.Errorf("Entails(%v, %v): got %v, error %d, want %d", x.from, x.b, got, err, x.want)
		}
	}
	for _, bad := range notValid() {
		if got, err := universe.Entails(append(bounds(t, "?0 <= max(2, u0)"), bad), meta[0]); got || err != api.ErrForm {
			t.Errorf("%v among the bounds: got %v, error %d", bad, got, err)
		}
		if got, err := universe.Entails(append(meta, two...), bad); got || err != api.ErrForm {
			t.Errorf("%v as the bound: got %v, error %d", bad, got, err)
		}
	}
}
