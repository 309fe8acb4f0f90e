package family_test

import (
	"fmt"
	"math"
	"math/rand/v2"
	"slices"
	"testing"

	"euclid/api"
	"euclid/family"
	"euclid/level"
	"euclid/sample"
	"euclid/signature"
	"euclid/telescope"
	"euclid/term"
)

// maker makes random analysed forms.
type maker struct{ sample.Maker }

func newMaker(seed uint64) maker {
	return maker{sample.Maker{IntN: rand.New(rand.NewPCG(12, seed)).IntN}}
}

// other returns a term that is no function type, and in which the family F does not occur.
func (m maker) other() api.Term {
	for {
		if t := m.Term(m.IntN(3)); t.Kind != api.Pi {
			return t
		}
	}
}

func (m maker) others(most int) []api.Term {
	var terms []api.Term
	for range m.IntN(most + 1) {
		terms = append(terms, m.other())
	}
	return terms
}

// form returns an analysed form.
func (m maker) form() api.Family {
	f := api.Family{Name: "F", Levels: m.IntN(3), Params: m.others(3), Indices: m.others(2), Sort: the("prop")}
	if m.IntN(2) == 0 {
		f.Sort = the("(sort [u0 + 1])")
	}
	for i := range m.IntN(4) {
		c := api.CtorForm{Name: fmt.Sprint("c", i)}
		for i := range m.IntN(4) {
			field := telescope.Pis(m.others(2), m.other())
			if m.IntN(2) == 0 {
				r := api.RecField{Field: i, Args: m.others(2), Results: m.indexTerms(f)}
				field = recursive(f, r)
				c.Rec = append(c.Rec, r)
			}
			c.Fields = append(c.Fields, field)
		}
		c.Results = m.indexTerms(f)
		f.Ctors = append(f.Ctors, c)
	}
	return f
}

func (m maker) indexTerms(f api.Family) []api.Term {
	var terms []api.Term
	for range f.Indices {
		terms = append(terms, m.other())
	}
	return terms
}

// applied returns the family itself applied to the variables of the parameters, behind which there are so many variables, and to index terms.
func applied(f api.Family, depth int, results []api.Term) api.Term {
	t := con(f.Name)
	for i := range f.Levels {
		l, _ := level.Var(i, 0)
		t.Levels = append(t.Levels, l)
	}
	for i := range f.Params {
		t = ap(t, x(depth+len(f.Params)-1-i))
	}
	return ap(t, results...)
}

// recursive returns the type of a recursive field.
func recursive(f api.Family, r api.RecField) api.Term {
	return telescope.Pis(r.Args, applied(f, r.Field+len(r.Args), r.Results))
}

// declaration returns the declaration with an analysed form, by the words of the chapter.
func declaration(f api.Family) api.Decl {
	d := api.Decl{Kind: api.DeclFamily, Name: f.Name, Params: f.Levels, Fixed: len(f.Params), Type: telescope.Pis(slices.Concat(f.Params, f.Indices), f.Sort)}
	for _, c := range f.Ctors {
		d.Ctors = append(d.Ctors, api.Ctor{Name: c.Name, Type: telescope.Pis(slices.Concat(f.Params, c.Fields), applied(f, len(c.Fields), c.Results))})
	}
	return d
}

// P12.1, P12.3: the analysed form of a declaration that is made from one is this form, and its constructors have their types again.
func TestForms(t *testing.T) {
	m := newMaker(1)
	for range 3000 {
		f := m.form()
		d := declaration(f)
		got, err := family.Analyse(d)
		if err != api.OK || text(got) != text(f) {
			t.Fatalf("Analyse: error %d, got\n%s, want\n%s", err, text(got), text(f))
		}
		for i, c := range d.Ctors {
			if of, err := family.CtorType(got, i); err != api.OK || !term.Same(of, c.Type) {
				t.Fatalf("CtorType: got %s, error %d, want %s", show(of), err, show(c.Type))
			}
		}
	}
}

// checkForm checks an analysed form of a declaration: all that the chapter says of it holds.
func checkForm(t *testing.T, d api.Decl, f api.Family) {
	t.Helper()
	again := declaration(f)
	same := again.Name == d.Name && again.Params == d.Params && again.Fixed == d.Fixed && term.Same(again.Type, d.Type) && len(again.Ctors) == len(d.Ctors) && (f.Sort.Kind == api.Prop || f.Sort.Kind == api.Sort)
	for i, c := range again.Ctors {
		same = same && c.Name == d.Ctors[i].Name && term.Same(c.Type, d.Ctors[i].Type)
	}
	if !same {
		t.Fatalf("the form %s is not that of %v", text(f), d)
	}
	for _, c := range f.Ctors {
		next := 0
		for i, field := range c.Fields {
			if next < len(c.Rec) && c.Rec[next].Field == i {
				if !term.Same(recursive(f, c.Rec[next]), field) {
					t.Fatalf("field %s is not that of %s", show(field), text(f))
				}
				next++
			} else if isRecursive(f, i, field) {
				t.Fatalf("field %s is recursive, but not in %s", show(field), text(f))
			}
		}
		if next < len(c.Rec) {
			t.Fatalf("the recursive fields are not in order: %s", text(f))
		}
	}
}

// isRecursive reports whether a field is recursive: it is the type of a recursive field with its own arguments and last index terms.
func isRecursive(f api.Family, number int, field api.Term) bool {
	args, result := telescope.All(field)
	_, all := telescope.Spine(result)
	first := len(all) - len(f.Indices)
	return first >= 0 && term.Same(field, recursive(f, api.RecField{Field: number, Args: args, Results: all[first:]}))
}

// hasForm reports whether the types of a declaration have the right form.
func hasForm(d api.Decl) bool {
	binders, sort := telescope.All(d.Type)
	if sort.Kind != api.Prop && sort.Kind != api.Sort || len(binders) < d.Fixed {
		return false
	}
	f := api.Family{Name: d.Name, Levels: d.Params, Params: binders[:d.Fixed], Indices: binders[d.Fixed:]}
	for _, c := range d.Ctors {
		own, result := telescope.All(c.Type)
		_, all := telescope.Spine(result)
		if len(own) < d.Fixed || list(own[:d.Fixed]) != list(f.Params) || len(all) < len(f.Indices) {
			return false
		}
		if !term.Same(result, applied(f, len(own)-d.Fixed, all[len(all)-len(f.Indices):])) {
			return false
		}
	}
	return true
}

// damaged returns a term in which a node is replaced.
func (m maker) damaged(t api.Term) api.Term {
	if len(t.Kids) > 0 && m.IntN(5) > 0 {
		i := m.IntN(len(t.Kids))
		t.Kids = slices.Clone(t.Kids)
		t.Kids[i] = m.damaged(t.Kids[i])
		return t
	}
	switch m.IntN(5) {
	case 0:
		return ap(t, m.Leaf())
	case 1:
		return tm(api.Pi, m.Leaf(), t)
	case 2:
		if len(t.Kids) > 0 {
			return t.Kids[m.IntN(len(t.Kids))]
		}
	case 3:
		return []api.Term{the("F"), the("(const F [u0])"), the("{F #0}"), the("(const F [u0] [u1])")}[m.IntN(4)]
	}
	if t.Kind == api.Var {
		return x(m.IntN(6))
	}
	return m.Leaf()
}

// P12.1: declarations of other forms, too, have the form that the chapter defines, or none.
func TestDamagedDeclarations(t *testing.T) {
	m, counts := newMaker(2), map[api.Errno]int{}
	for range 12000 {
		d := declaration(m.form())
		if n := len(d.Ctors); n > 0 && m.IntN(4) > 0 {
			c := &d.Ctors[m.IntN(n)]
			c.Type = m.damaged(c.Type)
		} else if m.IntN(3) > 0 {
			d.Type = m.damaged(d.Type)
		} else {
			d.Fixed, d.Params = m.IntN(4), m.IntN(3)
		}
		want := api.OK
		if !hasForm(d) {
			want = api.ErrForm
		}
		f, err := family.Analyse(d)
		if err != want || err != api.OK && text(f) != text(api.Family{}) {
			t.Fatalf("Analyse of %v: error %d, want %d", d, err, want)
		}
		if err == api.OK {
			checkForm(t, d, f)
		}
		counts[err]++
	}
	if counts[api.OK] < 2000 || counts[api.ErrForm] < 2000 {
		t.Errorf("only %d declarations with a form, and %d without", counts[api.OK], counts[api.ErrForm])
	}
}

// P12.3: a constructor whose type has another parameter makes the declaration ErrForm.
func TestOtherParameters(t *testing.T) {
	m, tries := newMaker(3), 0
	for range 2000 {
		f := m.form()
		if len(f.Params) == 0 || len(f.Ctors) == 0 {
			continue
		}
		d := declaration(f)
		at := m.IntN(len(f.Params))
		other := slices.Clone(f.Params)
		other[at] = m.damaged(other[at])
		if term.Same(other[at], f.Params[at]) {
			continue
		}
		c := f.Ctors[m.IntN(len(f.Ctors))]
		d.Ctors = append(d.Ctors, api.Ctor{Name: "other", Type: telescope.Pis(slices.Concat(other, c.Fields), applied(f, len(c.Fields), c.Results))})
		if got, err := family.Analyse(d); err != api.ErrForm || text(got) != text(api.Family{}) {
			t.Fatalf("Analyse: error %d, got %s, with the parameters %s", err, text(got), list(other))
		}
		tries++
	}
	if tries < 500 {
		t.Errorf("only %d declarations", tries)
	}
}

// P12.2: random terms are applied families exactly if they are made from a family and its arguments.
func TestAppliedTerms(t *testing.T) {
	m, env, counts := newMaker(4), sample.Typed(), map[bool]int{}
	for range 5000 {
		head := m.one("Nat", "(const Vec [0])", "(const Vec [u0])", "(const Eq [1])", "False", "F", "Nat.succ", "#0", "none")
		args := m.others(4)
		entry, err := signature.Find(env, head.Name)
		domains, _ := telescope.All(entry.Type)
		want := err == api.OK && entry.Kind == api.EntryFamily && len(domains) == len(args)
		d, levels, params, indices, ok := family.Applied(env, ap(head, args...))
		if ok != want {
			t.Fatalf("Applied(%s): got %v", show(ap(head, args...)), ok)
		}
		if !ok {
			checkNotApplied(t, env, ap(head, args...))
		} else if d.Name != head.Name || len(params) != d.Fixed || fmt.Sprint(levels) != fmt.Sprint(head.Levels) || list(slices.Concat(params, indices)) != list(args) {
			t.Fatalf("Applied(%s): got %s, %v, %s, %s", show(ap(head, args...)), d.Name, levels, list(params), list(indices))
		}
		counts[ok]++
	}
	if counts[true] < 500 || counts[false] < 500 {
		t.Errorf("only %d families, and %d others", counts[true], counts[false])
	}
}

func (m maker) one(of ...string) api.Term { return the(of[m.IntN(len(of))]) }

// termsOf returns all terms of an analysed form.
func termsOf(f api.Family) []api.Term {
	terms := append(slices.Concat(f.Params, f.Indices), f.Sort)
	for _, c := range f.Ctors {
		terms = slices.Concat(terms, c.Fields, c.Results)
		for _, r := range c.Rec {
			terms = slices.Concat(terms, r.Args, r.Results)
		}
	}
	return terms
}

// grown appends to all lists of an analysed form, which changes nothing of it if they share no memory.
func grown(f api.Family) {
	more := func(list []api.Term) { _ = append(list, the("none")) }
	more(f.Params)
	more(f.Indices)
	for _, c := range f.Ctors {
		more(c.Fields)
		more(c.Results)
		for _, r := range c.Rec {
			more(r.Args)
			more(r.Results)
		}
	}
}

// Results share no memory with arguments or within themselves, and arguments stay as they are.
func TestMemory(t *testing.T) {
	for _, c := range families() {
		before := fmt.Sprint(c.d)
		f, _ := family.Analyse(c.d)
		again, _ := family.Analyse(c.d)
		given := append([]api.Term{c.d.Type}, sample.Terms([]api.Decl{c.d})...)
		results := slices.Concat(termsOf(f), termsOf(again))
		for i := range c.d.Ctors {
			of, _ := family.CtorType(f, i)
			more, _ := family.CtorType(f, i)
			results = append(results, of, more)
		}
		if !sample.Fresh(results, given) {
			t.Errorf("the analysed form of %s shares memory", c.d.Name)
		}
		grown(f)
		if text(f) != text(c.want) {
			t.Errorf("the lists of %s share memory", c.d.Name)
		}
		for _, part := range termsOf(f) {
			sample.Spoil(&part)
		}
		if got, _ := family.Analyse(c.d); text(got) != text(c.want) || text(again) != text(c.want) || fmt.Sprint(c.d) != before {
			t.Errorf("the analysed form of %s changed to %s", c.d.Name, text(got))
		}
	}
	env := sample.Typed()
	before := fmt.Sprint(env)
	from := the("{(const Eq [max(1, u0)]) (sort [u0]) (const Eq [u1]) (lam (sort [u2]) {(const Eq [u0]) #0})}")
	d, levels, params, indices, _ := family.Applied(env, from)
	head := api.Term{Kind: api.Const, Levels: levels}
	if !sample.Fresh(slices.Concat(params, indices, []api.Term{head}, sample.Terms([]api.Decl{d})), append(sample.Terms(env), from)) {
		t.Error("Applied shares memory")
	}
	_ = append(params, the("none"))
	if list(indices) != "[(lam (sort [u2]) (app (const Eq [u0]) #0))]" {
		t.Errorf("the index arguments changed to %s", list(indices))
	}
	d.Ctors[0].Name, d.Rec.Rules[0] = "spoiled", the("none")
	if fmt.Sprint(env) != before {
		t.Error("the environment was modified")
	}
}

// The functions return for arguments that they need not accept.
func TestOtherArguments(t *testing.T) {
	deep, double, long := x(0), the("prop"), con("F")
	for range 1 << 12 {
		deep, long = tm(api.Pi, x(0), deep), ap(long, x(0))
	}
	for range 60 {
		double = tm(api.Pi, double, double)
	}
	huge := api.Level{Const: -7, Vars: []api.LevelVar{{Index: math.MinInt}, {Index: math.MaxInt}}}
	odd := []api.Term{deep, double, long, tm(api.Pi, long, long), tm(api.Pi, double, long), x(-1), x(math.MaxInt), tm(api.App), tm(api.App, x(0)), ap(tm(api.App), x(0)), tm(api.Lam), tm(api.Pi), tm(api.Pi, x(0)), tm(api.Pi, tm(api.Pi), tm(api.Sort)), tm(api.Sort), con("F", huge), tm(-1, x(0)), tm(99), tm(api.Prop, x(0)), tm(api.Var, x(0))}
	for i, a := range odd {
		for _, b := range []api.Term{odd[(i+1)%len(odd)], odd[(i+7)%len(odd)], con("F"), the("prop"), the("(pi prop (pi prop prop))")} {
			for _, fixed := range []int{0, 1, 2, -1, math.MinInt, math.MaxInt} {
				d := api.Decl{Kind: api.DeclFamily, Name: "F", Params: fixed, Fixed: fixed, Type: b, Ctors: []api.Ctor{{Type: a}, {Type: tm(api.Pi, a, ap(con("F"), b))}}}
				f, _ := family.Analyse(d)
				family.CtorType(f, 0)
				family.Applied([]api.Decl{d}, a)
				family.Applied([]api.Decl{d}, ap(con("F"), a, b))
				f = api.Family{Name: "F", Levels: fixed, Params: []api.Term{a}, Ctors: []api.CtorForm{{Fields: []api.Term{b}, Rec: []api.RecField{{Field: fixed}}, Results: []api.Term{b, a}}}}
				family.CtorType(f, 0)
			}
		}
	}
	for _, env := range sample.WrongEnvs() {
		for _, name := range []string{"plus", "two", "Nat.zero", "Nat", "Vec"} {
			for n := range 11 {
				family.Applied(env, ap(con(name), slices.Repeat([]api.Term{x(0)}, n)...))
			}
		}
	}
}
