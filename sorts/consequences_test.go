package sorts_test

import (
	"fmt"
	"math/rand/v2"
	"slices"
	"testing"

	"euclid/api"
	"euclid/level"
	"euclid/sorts"
	"euclid/spines"
	"euclid/subst"
	"euclid/telescope"
	"euclid/term"
)

// known is a type with what is known of it: its sort or error, and the sort that it is itself, if it is one.
type known struct {
	of, sort api.Term
	err      api.Errno
	is       api.Term
}

// closed are types without variables.
func closed() []known {
	var result []known
	for _, c := range [][3]string{
		{"Nat", "(sort [0])"}, {"A", "(sort [0])"}, {"P", "prop"}, {"{F 1}", "(sort [0])"}, {"{Tuple 2}", "(sort [0])"}, {"(sigma P P)", "(sort [0])"},
		{"prop", "(sort [0])", "prop"}, {"(sort [0])", "(sort [1])", "(sort [0])"}, {"(sort [u0])", "(sort [u0 + 1])", "(sort [u0])"}, {"(sort [max(1, u1)])", "(sort [max(2, u1 + 1)])", "(sort [max(1, u1)])"},
		{"(pi (sort [3]) P)", "prop"}, {"(pi (sort [u0]) Nat)", "(sort [u0 + 1])"}, {"(pi Nat (sort [u1]))", "(sort [u1 + 1])"}, {"(const high [0])", "(sort [60])"}, {"{(const Eq [1]) (sort [0]) Nat A}", "prop"}, {"same", ""},
		{"{(lam (sort [1]) #0) (sort [0])}", "(sort [1])", "(sort [0])"}, {"{(const id [2]) (sort [1]) (sort [0])}", "(sort [1])", "(sort [0])"},
	} {
		k := known{of: the(c[0])}
		if c[1] == "" {
			k.err = api.ErrSort
		} else {
			k.sort = the(c[1])
		}
		if c[2] != "" {
			k.is = the(c[2])
		}
		result = append(result, k)
	}
	return result
}

// wrong are types with errors.
func wrong() []known {
	var result []known
	for _, c := range []struct {
		source string
		err    api.Errno
	}{{"0", api.ErrSort}, {"none", api.ErrNone}, {"{Nat Nat}", api.ErrFun}, {"(const Nat [0])", api.ErrLevel}, {"?0", api.ErrMeta}, {"{F p}", api.ErrType}, {"(fst 0)", api.ErrPair}, {"#999", api.ErrScope}, {"c0", api.ErrNone}, {"(pi none 0)", api.ErrNone}, {"(pi Nat {Nat Nat})", api.ErrFun}} {
		result = append(result, known{of: the(c.source), err: c.err})
	}
	return append(result, known{of: the("(sort [100])"), err: api.ErrLevel, is: the("(sort [100])")})
}

// maker makes random families of which all sorts are known.
type maker struct {
	intN          func(n int) int
	closed, wrong []known
}

func newMaker(seed uint64) maker {
	return maker{rand.New(rand.NewPCG(14, seed)).IntN, closed(), wrong()}
}

// family is a family with what is known of its fields.
type family struct {
	sort            api.Term
	params, indices []known
	ctors           []ctor
}

type ctor struct {
	fields  []known
	results []api.Term
}

// decl returns the declaration of a family.
func (f family) decl() api.Decl {
	d := api.Decl{Kind: api.DeclFamily, Name: "T", Params: 2, Fixed: len(f.params), Type: telescope.Pis(typesOf(f.params, f.indices), f.sort)}
	for i, c := range f.ctors {
		result := f.applied(len(c.fields), c.results)
		d.Ctors = append(d.Ctors, api.Ctor{Name: fmt.Sprint("c", i), Type: telescope.Pis(typesOf(f.params, c.fields), result)})
	}
	return d
}

// applied returns the family itself applied to the variables of the parameters, behind which there are so many variables, and to index terms.
func (f family) applied(depth int, results []api.Term) api.Term {
	t := spines.Apply(the("(const T [u0] [u1])"), telescope.Vars(len(f.params), depth)...)
	return spines.Apply(t, results...)
}

// typesOf returns the types of lists, one after another.
func typesOf(lists ...[]known) []api.Term {
	var result []api.Term
	for _, list := range lists {
		for _, k := range list {
			result = append(result, k.of)
		}
	}
	return result
}

func pick[T any](m maker, list []T) T { return list[m.intN(len(list))] }

func (m maker) many(most int, from []known) []known {
	var result []known
	for range m.intN(most + 1) {
		result = append(result, pick(m, from))
	}
	return result
}

// any returns a family. Its parameters are closed types with a sort, and its indices are numbers.
func (m maker) any(sort api.Term, ctors int) family {
	f := family{sort: sort, params: m.many(2, m.closed[:len(m.closed)-3])}
	for range m.intN(3) {
		f.indices = append(f.indices, m.closed[0])
	}
	for range ctors {
		f.ctors = append(f.ctors, m.ctor(f, m.intN(4)))
	}
	return f
}

func (m maker) ctor(f family, fields int) ctor {
	var c ctor
	for i := range fields {
		c.fields = append(c.fields, m.field(f, c.fields[:i]))
	}
	for range f.indices {
		t := pick(m, []api.Term{the("0"), the("{Nat.succ #0}")})
		if m.intN(3) > 0 {
			t = x(m.intN(len(f.params) + fields + 1))
		}
		c.results = append(c.results, t)
	}
	return c
}

// field returns a field behind others.
func (m maker) field(f family, before []known) known {
	around := slices.Concat(f.params, before)
	switch n := m.intN(20); {
	case n < 10 || n < 15 && len(around) == 0:
		return pick(m, m.closed)
	case n < 15:
		at := m.intN(len(around))
		return variable(around[len(around)-1-at], at)
	case n < 18:
		return m.recursive(f, len(before))
	case n < 19:
		return functionType(pick(m, m.closed), pick(m, m.closed))
	}
	return pick(m, m.wrong)
}

// variable returns a variable with a known type as a type.
func variable(of known, index int) known {
	if isZero(of.is) {
		return known{of: x(index), err: api.ErrSort}
	}
	return known{of: x(index), sort: of.is}
}

func isZero(t api.Term) bool { return term.Same(t, api.Term{}) }

// functionType returns the type of functions between closed types, or to a recursive field.
func functionType(a, b known) known {
	k := known{of: tm(api.Pi, a.of, b.of), sort: b.sort, err: a.err}
	switch {
	case a.err == api.OK && b.err != api.OK:
		k.err = b.err
	case k.err == api.OK && a.sort.Kind == api.Sort && b.sort.Kind == api.Sort:
		l, _ := level.Max(a.sort.Levels[0], b.sort.Levels[0])
		k.sort = sortOf(l)
	}
	if k.err != api.OK {
		k.sort = api.Term{}
	}
	return k
}

func sortOf(l api.Level) api.Term { return api.Term{Kind: api.Sort, Levels: []api.Level{l}} }

// recursive returns a recursive field behind so many others, perhaps with an argument.
func (m maker) recursive(f family, number int) known {
	args := m.intN(2)
	var results []api.Term
	k := known{sort: f.sort}
	for range f.indices {
		t := pick(m, []api.Term{the("0"), the("two"), the("0"), the("{plus 1 two}"), the("p")})
		if t.Name == "p" {
			k.err, k.sort = api.ErrType, api.Term{}
		}
		results = append(results, t)
	}
	k.of = f.applied(number+args, results)
	if args > 0 {
		return functionType(pick(m, m.closed), k)
	}
	return k
}

// check follows the words of the chapter.
func check(f family) (int, int, api.Errno) {
	for i, c := range f.ctors {
		for j, k := range c.fields {
			switch {
			case f.sort.Kind == api.Prop:
			case k.err != api.OK:
				return i, j, k.err
			case k.sort.Kind == api.Sort && !level.Leq(k.sort.Levels[0], f.sort.Levels[0]):
				return i, j, api.ErrLevel
			}
		}
	}
	return 0, 0, api.OK
}

// large follows the words of the chapter.
func large(f family) (bool, api.Errno) {
	if f.sort.Kind == api.Sort || len(f.ctors) == 0 {
		return true, api.OK
	}
	if len(f.ctors) > 1 {
		return false, api.OK
	}
	c := f.ctors[0]
	for i, k := range c.fields {
		switch {
		case isIndex(c, i):
		case k.err != api.OK:
			return false, k.err
		case k.sort.Kind == api.Sort:
			return false, api.OK
		}
	}
	return true, api.OK
}

func isIndex(c ctor, field int) bool {
	for _, r := range c.results {
		if r.Kind == api.Var && r.Index+field == len(c.fields)-1 {
			return true
		}
	}
	return false
}

func universes() []api.Term {
	var sorts []api.Term
	for _, source := range []string{"(sort [0])", "(sort [1])", "(sort [u0])", "(sort [u0 + 1])", "(sort [max(2, u0)])", "(sort [max(u0 + 1, u1 + 1)])", "(sort [max(60, u1 + 2)])", "(sort [max(60, u0 + 2)])", "(sort [61])"} {
		sorts = append(sorts, the(source))
	}
	return sorts
}

// P14.1, P14.2: random families in a Sort, and in Prop
func TestRandomFamilies(t *testing.T) {
	m, checks, larges := newMaker(1), map[string]int{}, map[string]int{}
	for range 9000 {
		f := m.any(pick(m, universes()), m.intN(3)+1)
		d := f.decl()
		i, j, err := check(f)
		wantCheck(t, d, i, j, err)
		wantLarge(t, d, true, api.OK)
		if j > 0 || len(f.ctors[0].fields) > 0 {
			checks[fmt.Sprint(err == api.OK)]++
		}
		checks[fmt.Sprint("error ", err)]++

		f = m.any(the("prop"), []int{0, 1, 1, 1, 1, 1, 2}[m.intN(7)])
		d = f.decl()
		is, err := large(f)
		wantLarge(t, d, is, err)
		wantCheck(t, d, 0, 0, api.OK)
		larges[fmt.Sprint(is, " error ", err)]++
		if is && slices.ContainsFunc(f.ctors, func(c ctor) bool { return len(c.fields) > 1 }) {
			larges["with fields"]++
		}
	}
	for _, c := range []struct {
		counts map[string]int
		kind   string
		least  int
	}{{checks, "true", 1000}, {checks, "false", 1000}, {checks, "error 15", 500}, {checks, "error 12", 100}, {checks, "error 10", 20}, {larges, "true error 0", 1000}, {larges, "false error 0", 1000}, {larges, "false error 12", 100}, {larges, "with fields", 150}} {
		if c.counts[c.kind] < c.least {
			t.Errorf("only %d families: %s", c.counts[c.kind], c.kind)
		}
	}
}

// P14.3: what satisfies the constraints satisfies them also in the next universe.
func TestNextUniverse(t *testing.T) {
	m, tries := newMaker(2), 0
	for range 5000 {
		f := m.any(pick(m, universes()), m.intN(3))
		d := f.decl()
		if _, _, err := sorts.Check(env, d); err != api.OK {
			continue
		}
		l, _ := level.Plus(f.sort.Levels[0], 1)
		d.Type = telescope.Pis(typesOf(f.params, f.indices), sortOf(l))
		wantCheck(t, d, 0, 0, api.OK)
		if len(f.ctors) > 0 && len(f.ctors[0].fields) > 0 {
			tries++
		}
	}
	if tries < 500 {
		t.Errorf("only %d families", tries)
	}
}

// with returns the declaration of a family with a further field of a closed type.
func with(f family, number, at int, of api.Term) api.Decl {
	d := f.decl()
	c := f.ctors[number]
	around := typesOf(f.params, c.fields[:at])
	_, rest, _ := telescope.Open(d.Ctors[number].Type, len(around))
	rest, _ = subst.Shift(rest, 1, 0)
	d.Ctors[number].Type = telescope.Pis(around, tm(api.Pi, of, rest))
	return d
}

// P14.3: a further field in Prop, and one with the type of the family itself
func TestFurtherFields(t *testing.T) {
	m, counts := newMaker(3), map[api.Errno]int{}
	for range 3000 {
		f := m.any(pick(m, universes()), m.intN(2)+1)
		number := m.intN(len(f.ctors))
		at := m.intN(len(f.ctors[number].fields) + 1)
		i, j, err := check(f)
		is := fmt.Sprint(i, j) // where the error is with one more field
		if err != api.OK && i == number && j >= at {
			is = fmt.Sprint(i, j+1)
		}
		proposition := pick(m, []api.Term{the("P"), the("(pi (sort [u1]) (pi #0 P))"), the("{(const Eq [2]) (sort [1]) (sort [0]) (sort [0])}")})
		ctor, field, got := sorts.Check(env, with(f, number, at, proposition))
		if got != err || fmt.Sprint(ctor, field) != is {
			t.Fatalf("Check with a further proposition %d in %s: got %d, %d, error %d, want %s, error %d", at, types(f.decl()), ctor, field, got, is, err)
		}
		// Behind the first error the further field does not matter.
		if err != api.OK && (i < number || i == number && j < at) {
			wantCheck(t, with(f, number, at, f.sort), i, j, err)
		} else {
			wantCheck(t, with(f, number, at, f.sort), number, at, api.ErrLevel)
		}
		counts[err]++
	}
	if counts[api.OK] < 500 || counts[api.ErrLevel] < 500 {
		t.Errorf("only %d families that satisfy the constraints, and %d that do not", counts[api.OK], counts[api.ErrLevel])
	}
}

// P14.3: more constructors, or a further field of data, and a family in Prop is not large.
func TestNotLarge(t *testing.T) {
	m, tries := newMaker(4), 0
	for range 3000 {
		f := m.any(the("prop"), 1)
		is, _ := sorts.Large(env, f.decl())
		data := pick(m, []api.Term{the("Nat"), the("prop"), the("(sort [u0])"), the("(sigma P P)")})
		at := m.intN(len(f.ctors[0].fields) + 1)
		if got, err := sorts.Large(env, with(f, 0, at, data)); got || is && err != api.OK {
			t.Fatalf("Large with a further field %s: got %v, error %d", show(data), got, err)
		}
		f.ctors = append(f.ctors, m.ctor(f, m.intN(3)))
		wantLarge(t, f.decl(), false, api.OK)
		if is {
			tries++
		}
	}
	if tries < 500 {
		t.Errorf("only %d large families", tries)
	}
}

// The known types have the sorts and the errors that they are said to have.
func TestKnownTypes(t *testing.T) {
	for _, k := range append(closed(), wrong()...) {
		want := k.err
		d := declared("D", 2, 0, "(sort [max(60, u0 + 2, u1 + 2)])")
		d.Ctors = []api.Ctor{{Type: tm(api.Pi, k.of, the("(const D [u0] [u1])"))}}
		wantCheck(t, d, 0, 0, want)
		if want == api.OK && k.sort.Kind == api.Sort {
			d.Type = k.sort
			wantCheck(t, d, 0, 0, api.OK)
		}
	}
}
