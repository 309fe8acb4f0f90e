package positivity_test

import (
	"math/rand/v2"
	"slices"
	"testing"

	"euclid/api"
	"euclid/family"
	"euclid/level"
	"euclid/positivity"
	"euclid/spines"
	"euclid/telescope"
	"euclid/term"
)

// maker makes random types and families. The family F is in some of them.
type maker struct{ intN func(n int) int }

func newMaker(seed uint64) maker { return maker{rand.New(rand.NewPCG(13, seed)).IntN} }

func (m maker) one(of ...string) api.Term { return the(of[m.intN(len(of))]) }

// plain returns a term in which F does not occur.
func (m maker) plain(depth int) api.Term {
	return m.term(depth, func() api.Term { return m.one("Nat", "G", "#0", "#3", "prop", "(sort [u0])", "?1", "2", "F.rec") })
}

// any returns a term in which F may occur anywhere.
func (m maker) any(depth int) api.Term {
	return m.term(depth, func() api.Term { return m.one("Nat", "G", "#0", "#2", "prop", "F", "(const F [u0])", "F'") })
}

func (m maker) term(depth int, leaf func() api.Term) api.Term {
	if depth <= 0 {
		return leaf()
	}
	below := func() api.Term { return m.term(depth-1-m.intN(2), leaf) }
	switch m.intN(12) {
	case 0, 1, 2:
		return tm(api.Pi, below(), below())
	case 3, 4, 5:
		return tm(api.App, below(), below())
	case 6:
		return tm(api.Sigma, below(), below())
	case 7:
		return tm(api.Lam, below(), below())
	case 8:
		return tm(api.Let, below(), below(), below())
	case 9:
		return tm(api.Pair, below(), below(), below())
	case 10:
		return tm([]int{api.Fst, api.Snd}[m.intN(2)], below())
	}
	return leaf()
}

// mostly returns a plain term, and sometimes any.
func (m maker) mostly() api.Term {
	if m.intN(12) == 0 {
		return m.any(2)
	}
	return m.plain(2)
}

func (m maker) terms(n int, make func() api.Term) []api.Term {
	var terms []api.Term
	for range n {
		terms = append(terms, make())
	}
	return terms
}

// form is what families are made from: the numbers of level parameters, parameters and indices.
type form struct{ levels, params, indices int }

// applied returns F applied to the variables of its parameters, behind which there are so many variables, and to index terms.
func (f form) applied(depth int, results []api.Term) api.Term {
	head := api.Term{Kind: api.Const, Name: "F"}
	for i := range f.levels {
		l, _ := level.Var(i, 0)
		head.Levels = append(head.Levels, l)
	}
	return spines.Apply(spines.Apply(head, telescope.Vars(f.params, depth)...), results...)
}

func (m maker) form() form { return form{m.intN(2), m.intN(3), m.intN(3)} }

func (m maker) plain2() api.Term { return m.plain(2) }

// field returns the type of a field behind so many others.
func (m maker) field(f form, number int) api.Term {
	switch m.intN(4) {
	case 0:
		return m.mostly()
	case 1:
		args := m.terms(m.intN(3), m.mostly)
		return telescope.Pis(args, f.applied(number+len(args), m.terms(f.indices, m.mostly)))
	case 2:
		args := m.terms(m.intN(3), m.plain2)
		return telescope.Pis(args, f.applied(number+len(args), m.terms(f.indices, m.plain2)))
	}
	return m.plain(2)
}

// ctor returns the type of a constructor, without the parameters.
func (m maker) ctor(f form) api.Term {
	var fields []api.Term
	for i := range m.intN(5) {
		fields = append(fields, m.field(f, i))
	}
	return telescope.Pis(fields, f.applied(len(fields), m.terms(f.indices, m.mostly)))
}

// family returns a declaration with constructors that are made without the parameters.
func (m maker) family(f form, ctors int, ctor func(f form) api.Term) api.Decl {
	params := m.terms(f.params, m.plain2)
	indices := m.terms(f.indices, m.plain2)
	d := api.Decl{Kind: api.DeclFamily, Name: "F", Params: f.levels, Fixed: f.params, Type: telescope.Pis(slices.Concat(params, indices), m.one("prop", "(sort [0])", "(sort [u0 + 1])"))}
	for range ctors {
		d.Ctors = append(d.Ctors, api.Ctor{Name: "c", Type: telescope.Pis(params, ctor(f))})
	}
	return d
}

// occurs follows the words of the chapter.
func occurs(t api.Term, name string) bool { return slices.Contains(term.Consts(t), name) }

// strictly follows the words of the chapter.
func strictly(t api.Term, name string) bool {
	if !occurs(t, name) {
		return true
	}
	if t.Kind == api.Pi {
		return !occurs(t.Kids[0], name) && strictly(t.Kids[1], name)
	}
	for t.Kind == api.App && !occurs(t.Kids[1], name) {
		t = t.Kids[0]
	}
	return t.Kind == api.Const && t.Name == name
}

// check follows the words of the chapter, for a declaration that has an analysed form.
func check(d api.Decl) (int, int, api.Errno) {
	f, _ := family.Analyse(d)
	for i, c := range f.Ctors {
		recursive := map[int]bool{}
		for _, r := range c.Rec {
			recursive[r.Field] = true
		}
		for j, field := range c.Fields {
			if occurs(field, d.Name) && !(recursive[j] && strictly(field, d.Name)) {
				return i, j, api.ErrPositive
			}
		}
		for _, r := range c.Results {
			if occurs(r, d.Name) {
				return i, len(c.Fields), api.ErrPositive
			}
		}
	}
	return 0, 0, api.OK
}

// P13.1: Check of random families
func TestRandomFamilies(t *testing.T) {
	m, counts := newMaker(1), map[string]int{}
	for range 10000 {
		d := m.family(m.form(), m.intN(4), m.ctor)
		ctor, field, want := check(d)
		wantCheck(t, d, ctor, field, want)
		kind := "accepted"
		if want != api.OK {
			f, _ := family.Analyse(d)
			kind = "field"
			if field == len(f.Ctors[ctor].Fields) {
				kind = "index"
			}
			if ctor > 0 && field > 0 {
				counts["late"]++
			}
		} else if slices.ContainsFunc(d.Ctors, func(c api.Ctor) bool { return c.Type.Kind == api.Pi }) {
			kind = "accepted with fields"
		}
		counts[kind]++
	}
	for kind, n := range map[string]int{"accepted with fields": 1000, "field": 500, "index": 200, "late": 200} {
		if counts[kind] < n {
			t.Errorf("only %d families: %s", counts[kind], kind)
		}
	}
}

// P13.2, P13.3: Positive of random types, and of function types
func TestRandomTypes(t *testing.T) {
	m, counts := newMaker(2), map[bool]int{}
	for range 20000 {
		from := m.any(m.intN(4))
		if m.intN(2) == 0 {
			from = telescope.Pis(m.terms(m.intN(3), m.mostly), spines.Apply(m.one("F", "(const F [3])", "F", "#0", "G"), m.terms(m.intN(3), m.mostly)...))
		}
		got := positivity.Positive(from, "F")
		if got != strictly(from, "F") || !occurs(from, "F") && !got {
			t.Fatalf("Positive(%s): got %v", show(from), got)
		}
		domain := m.mostly()
		whole := positivity.Positive(tm(api.Pi, domain, from), "F")
		if whole != (!occurs(domain, "F") && got) {
			t.Fatalf("Positive of the function type from %s to %s: got %v", show(domain), show(from), whole)
		}
		if occurs(from, "F") {
			counts[got]++
		}
	}
	if counts[true] < 2000 || counts[false] < 2000 {
		t.Errorf("only %d types in which F is positive, and %d others", counts[true], counts[false])
	}
}

// accepted returns a family that is accepted.
func (m maker) accepted(f form, ctors int) api.Decl {
	for {
		d := m.family(f, ctors, m.ctor)
		if _, _, err := positivity.Check(d); err == api.OK {
			return d
		}
	}
}

// P13.3: an accepted family remains so without some of its constructors.
func TestFewerConstructors(t *testing.T) {
	m := newMaker(3)
	for range 500 {
		d := m.accepted(m.form(), 3)
		for _, without := range [][]int{{0}, {1}, {2}, {0, 1}, {1, 2}, {0, 2}, {0, 1, 2}} {
			fewer := d
			fewer.Ctors = nil
			for i, c := range d.Ctors {
				if !slices.Contains(without, i) {
					fewer.Ctors = append(fewer.Ctors, c)
				}
			}
			wantCheck(t, fewer, 0, 0, api.OK)
		}
	}
}

// P13.3: a constructor is refused at a field in whose domain the family occurs.
func TestDomains(t *testing.T) {
	m := newMaker(4)
	for range 1000 {
		f := m.form()
		d := m.accepted(f, m.intN(3)+1)
		a, _ := family.Analyse(d)
		at := m.intN(len(d.Ctors))
		fields := a.Ctors[at].Fields
		number := m.intN(len(fields) + 1)
		domain := m.any(2)
		for !occurs(domain, "F") {
			domain = m.any(2)
		}
		args := slices.Concat(m.terms(m.intN(2), m.plain2), []api.Term{domain}, m.terms(m.intN(2), m.plain2))
		result := f.applied(number+len(args), m.terms(f.indices, m.plain2))
		if m.intN(2) == 0 {
			result = m.plain(1)
		}
		// The fields behind it are others: the variables of the old ones would be wrong.
		later := m.terms(m.intN(2), m.mostly)
		of := slices.Concat(a.Params, fields[:number], []api.Term{telescope.Pis(args, result)}, later)
		ctor := telescope.Pis(of, f.applied(number+1+len(later), m.terms(f.indices, m.mostly)))
		d.Ctors = slices.Insert(slices.Clone(d.Ctors), at, api.Ctor{Name: "more", Type: ctor})
		wantCheck(t, d, at, number, api.ErrPositive)
	}
}
