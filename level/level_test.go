package level_test

import (
	"math"
	"slices"
	"testing"

	"euclid/api"
	"euclid/level"
)

// lv builds a level without any check; the variables are pairs of an index and an offset.
func lv(constant int, vars ...api.LevelVar) api.Level {
	return api.Level{Const: constant, Vars: vars}
}

func v(index, plus int) api.LevelVar { return api.LevelVar{Index: index, Plus: plus} }

// parse reads a level that has to be correct.
func parse(t *testing.T, s string) api.Level {
	t.Helper()
	l, err := level.Parse(s)
	if err != api.OK {
		t.Fatalf("Parse(%q): error %d", s, err)
	}
	return l
}

// wantLevel checks a result and its error; beside an error the result has to be zero.
func wantLevel(t *testing.T, what string, got api.Level, err api.Errno, want api.Level, wantErr api.Errno) {
	t.Helper()
	if err != wantErr || !level.Same(got, want) {
		t.Errorf("%s: got %v, error %d, want %v, error %d", what, got, err, want, wantErr)
	}
}

// invalid returns a level for each way in which a level may be not valid.
func invalid() []api.Level {
	return []api.Level{
		lv(-1),
		lv(101),
		lv(0, v(8, 0)),
		lv(0, v(-65537, 0)),
		lv(0, v(math.MinInt, 0)),
		lv(0, v(math.MaxInt, 0)),
		lv(0, v(0, -1)),
		lv(0, v(0, 101)),
		lv(0, v(1, 0), v(0, 0)),
		lv(0, v(0, 0), v(0, 1)),
		lv(0, v(-1, 0), v(-2, 0)),
		lv(1, v(0, 1)),
		lv(2, v(0, 0), v(1, 3)),
	}
}

// P1.1
func TestValid(t *testing.T) {
	for _, l := range []api.Level{
		lv(0), lv(100), lv(0, v(7, 100)), lv(0, v(-65536, 0)), lv(1, v(0, 0)), lv(100, v(-3, 99), v(0, 0)),
		lv(0, v(-65536, 0), v(-1, 0), v(0, 0), v(7, 0)), {Vars: []api.LevelVar{}},
	} {
		if !level.Valid(l) {
			t.Errorf("%v is not valid", l)
		}
	}
	for _, l := range invalid() {
		if level.Valid(l) {
			t.Errorf("%v is valid", l)
		}
	}
}

// P1.1
func TestOf(t *testing.T) {
	for _, x := range []struct {
		n   int
		err api.Errno
	}{{0, api.OK}, {7, api.OK}, {100, api.OK}, {-1, api.ErrRange}, {math.MinInt, api.ErrRange}, {101, api.ErrLevel}, {math.MaxInt, api.ErrLevel}} {
		want := api.Level{}
		if x.err == api.OK {
			want.Const = x.n
		}
		got, err := level.Of(x.n)
		wantLevel(t, "Of", got, err, want, x.err)
	}
}

// P1.1
func TestVar(t *testing.T) {
	for _, x := range []struct {
		index, plus int
		err         api.Errno
	}{
		{0, 0, api.OK}, {7, 100, api.OK}, {-1, 0, api.OK}, {-65536, 3, api.OK},
		{8, 0, api.ErrRange}, {-65537, 0, api.ErrRange}, {0, -1, api.ErrRange}, {8, 101, api.ErrRange},
		{0, math.MinInt, api.ErrRange}, {0, 101, api.ErrLevel}, {-1, math.MaxInt, api.ErrLevel},
	} {
		want := api.Level{}
		if x.err == api.OK {
			want = lv(0, v(x.index, x.plus))
		}
		got, err := level.Var(x.index, x.plus)
		wantLevel(t, "Var", got, err, want, x.err)
	}
}

// P1.1
func TestPlus(t *testing.T) {
	for _, x := range []struct {
		l    api.Level
		n    int
		want api.Level
		err  api.Errno
	}{
		{lv(2, v(0, 1)), 1, lv(3, v(0, 2)), api.OK},
		{lv(0, v(-1, 0), v(3, 2)), 5, lv(0, v(-1, 5), v(3, 7)), api.OK},
		{lv(0), 100, lv(100), api.OK},
		{lv(4, v(0, 0)), 0, lv(4, v(0, 0)), api.OK},
		{lv(2, v(0, 1)), 98, lv(100, v(0, 99)), api.OK},
		{lv(2, v(0, 1)), 99, lv(0), api.ErrLevel},
		{lv(0, v(0, 1), v(1, 0)), 100, lv(0), api.ErrLevel},
		{lv(0), 101, lv(0), api.ErrLevel},
		{lv(100), math.MaxInt, lv(0), api.ErrLevel},
		{lv(0), -1, lv(0), api.ErrRange},
		{lv(100), math.MinInt, lv(0), api.ErrRange},
		{lv(101), -1, lv(0), api.ErrForm},
	} {
		got, err := level.Plus(x.l, x.n)
		wantLevel(t, "Plus", got, err, x.want, x.err)
	}
	for _, l := range invalid() {
		got, err := level.Plus(l, 1)
		wantLevel(t, "Plus", got, err, lv(0), api.ErrForm)
	}
}

// P1.1
func TestMax(t *testing.T) {
	for _, x := range []struct{ a, b, want string }{
		{"u0 + 1", "2", "max(2, u0 + 1)"},
		{"u0 + 2", "2", "u0 + 2"},
		{"3", "5", "5"},
		{"0", "u3", "u3"},
		{"max(3, u0)", "?1 + 3", "max(u0, ?1 + 3)"},
		{"max(u0, u2 + 1, ?0)", "max(4, u0 + 2, u1, ?1, ?0)", "max(4, u0 + 2, u1, u2 + 1, ?0, ?1)"},
		{"max(5, u7)", "max(4, ?65535 + 3)", "max(5, u7, ?65535 + 3)"},
	} {
		a, b, want := parse(t, x.a), parse(t, x.b), parse(t, x.want)
		got, err := level.Max(a, b)
		wantLevel(t, x.a+" and "+x.b, got, err, want, api.OK)
		got, err = level.Max(b, a)
		wantLevel(t, x.b+" and "+x.a, got, err, want, api.OK)
	}
	for _, l := range invalid() {
		got, err := level.Max(l, lv(1))
		wantLevel(t, "Max", got, err, lv(0), api.ErrForm)
		got, err = level.Max(lv(1), l)
		wantLevel(t, "Max", got, err, lv(0), api.ErrForm)
	}
}

// P1.1
func TestLeq(t *testing.T) {
	for _, x := range []struct {
		a, b string
		want bool
	}{
		{"u0", "max(1, u0 + 1)", true},
		{"u0", "5", false},
		{"0", "u0", true},
		{"1", "u0", false},
		{"1", "u0 + 1", true},
		{"5", "max(5, u0)", true},
		{"6", "max(5, u0 + 4)", false},
		{"max(u0, ?0)", "max(u0, u1, ?0 + 1)", true},
		{"max(u0, ?0)", "max(u0, u1)", false},
		{"u0 + 2", "max(9, u0 + 1)", false},
		{"?0", "?1", false},
		{"?3 + 4", "?3 + 4", true},
	} {
		if got := level.Leq(parse(t, x.a), parse(t, x.b)); got != x.want {
			t.Errorf("%s <= %s is %v", x.a, x.b, got)
		}
	}
	for _, l := range invalid() {
		if level.Leq(l, lv(100)) || level.Leq(lv(0), l) || level.Leq(l, l) {
			t.Errorf("%v is compared", l)
		}
	}
}

// P1.1
func TestSame(t *testing.T) {
	if !level.Same(lv(0), api.Level{Vars: []api.LevelVar{}}) {
		t.Error("no list differs from an empty one")
	}
	levels := append(invalid(), lv(0), lv(1), lv(0, v(0, 0)), lv(0, v(0, 1)), lv(0, v(1, 0)), lv(0, v(0, 0), v(1, 0)), lv(1, v(0, 0)))
	for i, a := range levels {
		for j, b := range levels {
			b.Vars = slices.Clone(b.Vars)
			if level.Same(a, b) != (i == j) {
				t.Errorf("Same(%v, %v) is %v", a, b, i != j)
			}
		}
	}
}

// P1.2
func TestSubst(t *testing.T) {
	for _, x := range []struct {
		l      api.Level
		params []api.Level
		want   api.Level
		err    api.Errno
	}{
		{lv(2, v(0, 1)), []api.Level{lv(0, v(1, 1))}, lv(0, v(1, 2)), api.OK},
		{lv(0, v(0, 0), v(1, 0)), []api.Level{lv(0, v(1, 0)), lv(0, v(0, 3))}, lv(0, v(0, 3), v(1, 0)), api.OK},
		{lv(3, v(-2, 1), v(0, 2)), []api.Level{lv(0, v(-2, 0), v(-1, 0))}, lv(3, v(-2, 2), v(-1, 2)), api.OK},
		{lv(0, v(1, 100)), []api.Level{lv(100), lv(0)}, lv(100), api.OK},
		{lv(7, v(-1, 2)), nil, lv(7, v(-1, 2)), api.OK},
		{lv(4), []api.Level{lv(9)}, lv(4), api.OK},
		{lv(0, v(1, 0)), []api.Level{lv(0, v(0, 0))}, lv(0), api.ErrScope},
		{lv(0, v(0, 1), v(1, 0)), []api.Level{lv(100)}, lv(0), api.ErrScope},
		{lv(0, v(0, 1)), []api.Level{lv(100)}, lv(0), api.ErrLevel},
		{lv(0, v(0, 50)), []api.Level{lv(0, v(-1, 51))}, lv(0), api.ErrLevel},
		{lv(0, v(1, 0)), []api.Level{lv(101)}, lv(0), api.ErrForm},
		{lv(4), []api.Level{lv(0), lv(-1)}, lv(0), api.ErrForm},
	} {
		got, err := level.Subst(x.l, x.params)
		wantLevel(t, "Subst", got, err, x.want, x.err)
	}
	for _, l := range invalid() {
		got, err := level.Subst(l, nil)
		wantLevel(t, "Subst", got, err, lv(0), api.ErrForm)
	}
}

// P1.2
func TestAssign(t *testing.T) {
	for _, x := range []struct {
		l     api.Level
		metas []api.Level
		want  api.Level
		err   api.Errno
	}{
		{lv(0, v(-2, 1), v(-1, 0)), []api.Level{lv(4)}, lv(4, v(-2, 1)), api.OK},
		{lv(0, v(-2, 0), v(-1, 0)), []api.Level{lv(0, v(-2, 5)), lv(0, v(-1, 6))}, lv(0, v(-2, 5), v(-1, 6)), api.OK},
		{lv(0, v(-65536, 1), v(3, 2)), []api.Level{lv(8)}, lv(0, v(-65536, 1), v(3, 2)), api.OK},
		{lv(2, v(-1, 0), v(0, 1)), []api.Level{lv(0, v(0, 0))}, lv(2, v(0, 1)), api.OK},
		{lv(5), nil, lv(5), api.OK},
		{lv(0, v(-1, 1)), []api.Level{lv(100)}, lv(0), api.ErrLevel},
		{lv(0, v(-1, 1)), []api.Level{lv(100), lv(101)}, lv(0), api.ErrForm},
	} {
		got, err := level.Assign(x.l, x.metas)
		wantLevel(t, "Assign", got, err, x.want, x.err)
	}
	for _, l := range invalid() {
		got, err := level.Assign(l, nil)
		wantLevel(t, "Assign", got, err, lv(0), api.ErrForm)
	}
}

// P1.2
func TestEval(t *testing.T) {
	for _, x := range []struct {
		l      api.Level
		params []int
		want   int
		err    api.Errno
	}{
		{lv(2, v(0, 1)), []int{5}, 6, api.OK},
		{lv(2, v(0, 1)), []int{0}, 2, api.OK},
		{lv(0, v(0, 0), v(7, 100)), []int{3, 0, 0, 0, 0, 0, 0, 1000000}, 1000100, api.OK},
		{lv(3), nil, 3, api.OK},
		{lv(0), []int{1000001}, 0, api.ErrRange},
		{lv(0, v(-1, 0)), []int{0, -1}, 0, api.ErrRange},
		{lv(0, v(-1, 0), v(3, 0)), []int{0}, 0, api.ErrMeta},
		{lv(0, v(0, 0), v(1, 0)), []int{9}, 0, api.ErrScope},
		{lv(101), []int{-1}, 0, api.ErrForm},
	} {
		if got, err := level.Eval(x.l, x.params); got != x.want || err != x.err {
			t.Errorf("Eval(%v, %v): got %d, error %d", x.l, x.params, got, err)
		}
	}
	for _, l := range invalid() {
		if got, err := level.Eval(l, []int{1, 2}); got != 0 || err != api.ErrForm {
			t.Errorf("Eval(%v): got %d, error %d", l, got, err)
		}
	}
}

// P1.2
func TestParamsAndMetas(t *testing.T) {
	for _, x := range []struct {
		l      api.Level
		params int
		metas  []int
	}{
		{lv(0), 0, nil},
		{lv(9), 0, nil},
		{lv(0, v(0, 0)), 1, nil},
		{lv(1, v(2, 0), v(7, 0)), 8, nil},
		{lv(0, v(-1, 0)), 0, []int{0}},
		{lv(0, v(-65536, 1), v(-4, 0), v(-1, 0), v(5, 1)), 6, []int{0, 3, 65535}},
	} {
		if got := level.Params(x.l); got != x.params {
			t.Errorf("Params(%v) is %d", x.l, got)
		}
		if got := level.Metas(x.l); !slices.Equal(got, x.metas) {
			t.Errorf("Metas(%v) is %v", x.l, got)
		}
	}
	for _, l := range append(invalid(), lv(-1, v(-3, 0), v(4, 0))) {
		if level.Params(l) != 0 || len(level.Metas(l)) != 0 {
			t.Errorf("%v has variables", l)
		}
	}
}

// P1.2
func TestText(t *testing.T) {
	for _, x := range []struct {
		l    api.Level
		want string
	}{
		{lv(0), "0"},
		{lv(100), "100"},
		{lv(0, v(3, 0)), "u3"},
		{lv(0, v(3, 12)), "u3 + 12"},
		{lv(0, v(-1, 0)), "?0"},
		{lv(2, v(-1, 1), v(1, 0)), "max(2, u1, ?0 + 1)"},
		{lv(0, v(-65536, 0), v(-2, 4), v(0, 0), v(7, 1)), "max(u0, u7 + 1, ?1 + 4, ?65535)"},
	} {
		if got, err := level.Text(x.l); got != x.want || err != api.OK {
			t.Errorf("Text(%v): got %q, error %d", x.l, got, err)
		}
	}
	for _, l := range invalid() {
		if got, err := level.Text(l); got != "" || err != api.ErrForm {
			t.Errorf("Text(%v): got %q, error %d", l, got, err)
		}
	}
}
