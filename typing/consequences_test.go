package typing_test

import (
	"testing"

	"euclid/api"
	"euclid/conv"
	"euclid/level"
	"euclid/reduce"
	"euclid/sample"
	"euclid/signature"
	"euclid/telescope"
	"euclid/term"
	"euclid/typing"
)

// slow finds types by the words of the chapter. It ends by a panic with an error.
type slow struct{ *sample.Slow }

// infer returns the type of a term.
func (s slow) infer(ctx []api.Term, t api.Term) api.Term {
	switch t.Kind {
	case api.Var:
		return must(telescope.Lookup(ctx, t.Index))
	case api.Prop:
		return the("(sort [0])")
	case api.Sort:
		return universe(must(level.Plus(t.Levels[0], 1)))
	case api.Const:
		return must(signature.Type(s.Env, t.Name, t.Levels))
	case api.App:
		of := s.is(api.Pi, s.infer(ctx, t.Kids[0]), api.ErrFun)
		s.check(ctx, t.Kids[1], of.Kids[0])
		return put(of.Kids[1], t.Kids[1])
	case api.Lam:
		s.sort(ctx, t.Kids[0])
		return tm(api.Pi, t.Kids[0], s.infer(with(ctx, t.Kids[0]), t.Kids[1]))
	case api.Pi, api.Sigma:
		a := s.sort(ctx, t.Kids[0])
		b := s.sort(with(ctx, t.Kids[0]), t.Kids[1])
		if t.Kind == api.Pi && b.Kind == api.Prop {
			return b
		}
		return universe(must(level.Max(levelOf(a), levelOf(b))))
	case api.Pair:
		s.sort(ctx, t.Kids[0])
		of := s.is(api.Sigma, t.Kids[0], api.ErrPair)
		s.check(ctx, t.Kids[1], of.Kids[0])
		s.check(ctx, t.Kids[2], put(of.Kids[1], t.Kids[1]))
		return t.Kids[0]
	case api.Fst:
		return s.is(api.Sigma, s.infer(ctx, t.Kids[0]), api.ErrPair).Kids[0]
	case api.Snd:
		return put(s.is(api.Sigma, s.infer(ctx, t.Kids[0]), api.ErrPair).Kids[1], tm(api.Fst, t.Kids[0]))
	case api.Let:
		s.sort(ctx, t.Kids[0])
		s.check(ctx, t.Kids[1], t.Kids[0])
		return s.infer(ctx, put(t.Kids[2], t.Kids[1]))
	}
	panic(api.ErrMeta)
}

func (s slow) check(ctx []api.Term, t, want api.Term) {
	if !sample.Below(s.ShortNorm(s.infer(ctx, t)), s.ShortNorm(want)) {
		panic(api.ErrType)
	}
}

func (s slow) sort(ctx []api.Term, t api.Term) api.Term {
	of := s.Whnf(s.infer(ctx, t))
	if of.Kind != api.Prop && of.Kind != api.Sort {
		panic(api.ErrSort)
	}
	return of
}

func (s slow) is(kind int, t api.Term, otherwise api.Errno) api.Term {
	t = s.Whnf(t)
	if t.Kind != kind {
		panic(otherwise)
	}
	return t
}

func must[T any](value T, err api.Errno) T {
	if err != api.OK {
		panic(err)
	}
	return value
}

func universe(l api.Level) api.Term { return api.Term{Kind: api.Sort, Levels: []api.Level{l}} }

func levelOf(sort api.Term) api.Level {
	if sort.Kind == api.Prop {
		return api.Level{}
	}
	return sort.Levels[0]
}

// lightly returns what a function of slow returns, its error, and whether its reductions are light.
func lightly(find func(s slow) api.Term) (result api.Term, err api.Errno, light bool) {
	light = sample.Lightly(env, func(s *sample.Slow) {
		defer func() {
			if r := recover(); r != nil {
				e, ok := r.(api.Errno)
				if !ok {
					panic(r)
				}
				err = e
			}
		}()
		result = find(slow{s})
	})
	return result, err, light
}

// P11.1, P11.2: for random terms the results are those of the definitions.
func TestDefinitions(t *testing.T) {
	m := newMaker(1)
	counts := map[api.Errno]int{}
	for range 6000 {
		ctx := m.context()
		of := m.typeIn(ctx, 2)
		from := m.term(ctx, of, 4)
		if m.IntN(2) == 0 {
			from = m.damaged(from)
		}
		if term.Check(from, len(ctx), 0, 1, 0) != api.OK {
			continue
		}
		want, wantErr, light := lightly(func(s slow) api.Term { return s.infer(ctx, from) })
		got, err := typing.Infer(env, ctx, from)
		if !light {
			counts[api.ErrSteps]++
			continue
		}
		counts[err]++
		if err != wantErr || !term.Same(got, want) {
			t.Fatalf("Infer(%s): got %s, error %d, want %s, error %d", show(from), show(got), err, show(want), wantErr)
		}
		_, wantErr, light = lightly(func(s slow) api.Term { s.check(ctx, from, of); return of })
		if err := typing.Check(env, ctx, from, of); light && err != wantErr {
			t.Fatalf("Check(%s, %s): error %d, want %d", show(from), show(of), err, wantErr)
		}
		want, wantErr, light = lightly(func(s slow) api.Term { return s.sort(ctx, from) })
		if got, err := typing.SortOf(env, ctx, from); light && (err != wantErr || err == api.OK && !term.Same(got, want)) {
			t.Fatalf("SortOf(%s): got %s, error %d, want %s, error %d", show(from), show(got), err, show(want), wantErr)
		}
	}
	for err, least := range map[api.Errno]int{api.OK: 2000, api.ErrType: 300, api.ErrSort: 100, api.ErrFun: 100, api.ErrPair: 100, api.ErrMeta: 50, api.ErrNone: 50, api.ErrLevel: 50, api.ErrSteps: 5} {
		if counts[err] < least {
			t.Errorf("only %d terms with error %d", counts[err], err)
		}
	}
}

// typed calls a function with random terms that have types, in contexts whose elements have sorts.
func typed(t *testing.T, m maker, tries, least int, call func(ctx []api.Term, from, of api.Term)) {
	t.Helper()
	found := 0
	for range tries {
		ctx := m.context()
		of := m.typeIn(ctx, 2)
		if m.IntN(2) == 0 {
			of, _ = telescope.Lookup(ctx, m.IntN(2))
		}
		from := m.redex(ctx, of, 4)
		of, err := typing.Infer(env, ctx, from)
		if _, wrong := typing.Context(env, ctx); err != api.OK || wrong != api.OK {
			continue
		}
		found++
		call(ctx, from, of)
	}
	if found < least {
		t.Errorf("only %d terms with types", found)
	}
}

// isBelow reports whether a type is a subtype of another one.
func isBelow(t *testing.T, a, b api.Term) bool {
	t.Helper()
	below, err := conv.Sub(env, a, b)
	if err != api.OK {
		t.Errorf("Sub(%s, %s): error %d", show(a), show(b), err)
	}
	return below
}

// P11.3: the next step of a term has a subtype of its type, and the type has a sort.
func TestSteps(t *testing.T) {
	m, steps := newMaker(2), 0
	typed(t, m, 3000, 1000, func(ctx []api.Term, from, of api.Term) {
		if sort, err := typing.SortOf(env, ctx, of); err != api.OK {
			t.Fatalf("the type %s of %s: sort %s, error %d", show(of), show(from), show(sort), err)
		}
		for range 20 {
			next, ok, err := reduce.Step(env, from)
			if !ok || err != api.OK {
				return
			}
			got, err := typing.Infer(env, ctx, next)
			if err != api.OK || !isBelow(t, got, of) {
				t.Fatalf("%s has the type %s, its next step %s the type %s, error %d", show(from), show(of), show(next), show(got), err)
			}
			from, of = next, got
			steps++
		}
	})
	if steps < 2000 {
		t.Errorf("only %d steps", steps)
	}
}

// P11.3: a value of the type of the last variable can be put in for it.
func TestPutting(t *testing.T) {
	m, uses := newMaker(3), 0
	typed(t, m, 5000, 1000, func(ctx []api.Term, from, of api.Term) {
		last := len(ctx) - 1
		value := m.term(ctx[:last], ctx[last], 2)
		if typing.Check(env, ctx[:last], value, ctx[last]) != api.OK {
			return
		}
		if term.Occurs(from, 0) {
			uses++
		}
		got, err := typing.Infer(env, ctx[:last], put(from, value))
		if err != api.OK || !isBelow(t, got, put(of, value)) {
			t.Fatalf("%s has the type %s, but with %s the type %s, error %d", show(from), show(of), show(value), show(got), err)
		}
	})
	if uses < 300 {
		t.Errorf("only %d terms with the variable", uses)
	}
}

// P11.3: a term that is shifted has the shifted type, or the same error, in all contexts.
func TestShifting(t *testing.T) {
	m, typed := newMaker(4), 0
	for range 3000 {
		ctx := m.context()
		from := m.term(ctx, m.typeIn(ctx, 2), 3)
		if m.IntN(2) == 0 {
			from = m.damaged(from)
		}
		if m.IntN(4) == 0 {
			ctx[m.IntN(len(ctx))] = m.one("none", "?3", "two", "(sort [?1])", "{Nat.succ (sort [2])}")
		}
		of, err := typing.Infer(env, ctx, from)
		longer := ctx
		for range 1 + m.IntN(3) {
			longer = with(longer, m.one("none", "Nat", "?0", "{F #0}", "(sort [100])"))
			from, of = up(from), up(of)
		}
		got, gotErr := typing.Infer(env, longer, from)
		if gotErr != err || err == api.OK && !term.Same(got, of) {
			t.Fatalf("%s, shifted, has the type %s, error %d, want %s, error %d", show(from), show(got), gotErr, show(of), err)
		}
		if err == api.OK {
			typed++
		}
	}
	if typed < 1000 {
		t.Errorf("only %d terms with types", typed)
	}
}
