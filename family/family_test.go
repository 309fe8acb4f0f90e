package family_test

import (
	"fmt"
	"slices"
	"strings"
	"testing"

	"euclid/api"
	"euclid/family"
	"euclid/sample"
	"euclid/signature"
	"euclid/spines"
	"euclid/term"
)

var tm, x, con, ap, the, show = sample.Node, sample.Var, sample.Const, spines.Apply, sample.Parse, sample.Show

// declared returns a family: its name, level parameters, Fixed and type, and the types of its constructors, which are called c0, c1, ..
func declared(name string, params, fixed int, of string, ctors ...string) api.Decl {
	d := api.Decl{Kind: api.DeclFamily, Name: name, Params: params, Fixed: fixed, Type: the(of)}
	for i, c := range ctors {
		d.Ctors = append(d.Ctors, api.Ctor{Name: fmt.Sprint("c", i), Type: the(c)})
	}
	return d
}

// text returns an analysed form as text.
func text(f api.Family) string {
	s := fmt.Sprintf("%s %d %s | %s | %s", f.Name, f.Levels, list(f.Params), list(f.Indices), show(f.Sort))
	for _, c := range f.Ctors {
		s += fmt.Sprintf("; %s %s", c.Name, list(c.Fields))
		for _, r := range c.Rec {
			s += fmt.Sprintf(" <%d %s: %s>", r.Field, list(r.Args), list(r.Results))
		}
		s += " " + list(c.Results)
	}
	return s
}

func list(terms []api.Term) string {
	var parts []string
	for _, t := range terms {
		parts = append(parts, show(t))
	}
	return "[" + strings.Join(parts, ", ") + "]"
}

// read reads terms.
func read(sources ...string) []api.Term {
	var terms []api.Term
	for _, source := range sources {
		terms = append(terms, the(source))
	}
	return terms
}

// families are declarations with their analysed forms.
func families() []struct {
	d    api.Decl
	want api.Family
} {
	vec := declared("Vec", 1, 1, "(pi (sort [u0]) (pi Nat (sort [u0])))", "(pi (sort [u0]) {(const Vec [u0]) #0 Nat.zero})",
		"(pi (sort [u0]) (pi Nat (pi #1 (pi {(const Vec [u0]) #2 #1} {(const Vec [u0]) #3 {Nat.succ #2}}))))")
	eq := "(pi (sort [u0]) (pi #0 (pi #1 prop)))"
	refl := "(pi (sort [u0]) (pi #0 {(const Eq [u0]) #1 #0 #0}))"
	return []struct {
		d    api.Decl
		want api.Family
	}{
		// The example of the chapter
		{vec, api.Family{Name: "Vec", Levels: 1, Params: read("(sort [u0])"), Indices: read("Nat"), Sort: the("(sort [u0])"), Ctors: []api.CtorForm{
			{Name: "c0", Results: read("Nat.zero")},
			{Name: "c1", Fields: read("Nat", "#1", "{(const Vec [u0]) #2 #1}"), Rec: []api.RecField{{Field: 2, Results: read("#1")}}, Results: read("{Nat.succ #2}")},
		}}},
		{declared("Nat", 0, 0, "(sort [0])", "Nat", "(pi Nat Nat)"), api.Family{Name: "Nat", Sort: the("(sort [0])"), Ctors: []api.CtorForm{{Name: "c0"}, {Name: "c1", Fields: read("Nat"), Rec: []api.RecField{{}}}}}},
		{declared("False", 0, 0, "prop"), api.Family{Name: "False", Sort: the("prop")}},
		{declared("None", 8, 1, "(pi (sort [u7]) (pi #0 (sort [max(2, u3)])))"), api.Family{Name: "None", Levels: 8, Params: read("(sort [u7])"), Indices: read("#0"), Sort: the("(sort [max(2, u3)])")}},
		// The same type with different numbers of parameters
		{declared("Eq", 1, 2, eq, refl), api.Family{Name: "Eq", Levels: 1, Params: read("(sort [u0])", "#0"), Indices: read("#1"), Sort: the("prop"), Ctors: []api.CtorForm{{Name: "c0", Results: read("#0")}}}},
		{declared("Eq", 1, 1, eq, refl), api.Family{Name: "Eq", Levels: 1, Params: read("(sort [u0])"), Indices: read("#0", "#1"), Sort: the("prop"), Ctors: []api.CtorForm{{Name: "c0", Fields: read("#0"), Results: read("#0", "#0")}}}},
		{declared("Eq", 1, 0, eq, refl), api.Family{Name: "Eq", Levels: 1, Indices: read("(sort [u0])", "#0", "#1"), Sort: the("prop"), Ctors: []api.CtorForm{{Name: "c0", Fields: read("(sort [u0])", "#0"), Results: read("#1", "#0", "#0")}}}},
		// Recursive fields with arguments: W with two level parameters, and a family with indices that depend on the arguments
		{declared("W", 2, 2, "(pi (sort [u0]) (pi (pi #0 (sort [u1])) (sort [max(u0, u1)])))", "(pi (sort [u0]) (pi (pi #0 (sort [u1])) (pi #1 (pi (pi {#1 #0} {(const W [u0] [u1]) #3 #2}) {(const W [u0] [u1]) #3 #2}))))"),
			api.Family{Name: "W", Levels: 2, Params: read("(sort [u0])", "(pi #0 (sort [u1]))"), Sort: the("(sort [max(u0, u1)])"), Ctors: []api.CtorForm{
				{Name: "c0", Fields: read("#1", "(pi {#1 #0} {(const W [u0] [u1]) #3 #2})"), Rec: []api.RecField{{Field: 1, Args: read("{#1 #0}")}}},
			}}},
		{declared("T", 0, 1, "(pi Nat (pi Nat (sort [3])))", "(pi Nat (pi (pi Nat (pi {F #0} {T #2 #1})) (pi Nat (pi {T #2 #0} {T #3 {plus #1 #3}}))))"),
			api.Family{Name: "T", Params: read("Nat"), Indices: read("Nat"), Sort: the("(sort [3])"), Ctors: []api.CtorForm{
				{Name: "c0", Fields: read("(pi Nat (pi {F #0} {T #2 #1}))", "Nat", "{T #2 #0}"), Rec: []api.RecField{{Field: 0, Args: read("Nat", "{F #0}"), Results: read("#1")}, {Field: 2, Results: read("#0")}}, Results: read("{plus #1 #3}")},
			}}},
		// Fields with the family that are not recursive: in an argument, for other parameters, with other levels, with too few or too many arguments, as a domain, in a pair, or only after a reduction
		{declared("L", 1, 1, "(pi (sort [u0]) (sort [u0]))",
			"(pi (sort [u0]) (pi {List {(const L [u0]) #0}} (pi {(const L [u0]) {(const L [u0]) #1}} (pi {(const L [0]) #2} (pi {(const L [u0 + 1]) #3} (pi {L #4} (pi {(const L [u0] [u0]) #5} {(const L [u0]) #6})))))))",
			"(pi (sort [u0]) (pi (const L [u0]) (pi {(const L [u0]) #1 #1} (pi (pi {(const L [u0]) #2} #3) (pi (sigma {(const L [u0]) #3} Nat) (pi (let prop P {(const L [u0]) #5}) (pi {(lam prop {(const L [u0]) #6}) P} {(const L [u0]) #6})))))))"),
			api.Family{Name: "L", Levels: 1, Params: read("(sort [u0])"), Sort: the("(sort [u0])"), Ctors: []api.CtorForm{
				{Name: "c0", Fields: read("{List {(const L [u0]) #0}}", "{(const L [u0]) {(const L [u0]) #1}}", "{(const L [0]) #2}", "{(const L [u0 + 1]) #3}", "{L #4}", "{(const L [u0] [u0]) #5}")},
				{Name: "c1", Fields: read("(const L [u0])", "{(const L [u0]) #1 #1}", "(pi {(const L [u0]) #2} #3)", "(sigma {(const L [u0]) #3} Nat)", "(let prop P {(const L [u0]) #5})", "{(lam prop {(const L [u0]) #6}) P}")},
			}}},
		// Where else the family occurs does not matter here.
		{declared("D", 0, 0, "(pi Nat (sort [0]))", "(pi (pi (pi {D 0} Nat) {D 1}) (pi {D {D 2}} {D {D 3}}))"),
			api.Family{Name: "D", Indices: read("Nat"), Sort: the("(sort [0])"), Ctors: []api.CtorForm{
				{Name: "c0", Fields: read("(pi (pi {D 0} Nat) {D 1})", "{D {D 2}}"), Rec: []api.RecField{{Field: 0, Args: read("(pi {D 0} Nat)"), Results: read("1")}, {Field: 1, Results: read("{D 2}")}}, Results: read("{D 3}")},
			}}},
		// The variables of the parameters have to be in order.
		{declared("Two", 0, 2, "(pi (sort [0]) (pi (sort [0]) (sort [1])))", "(pi (sort [0]) (pi (sort [0]) (pi {Two #0 #1} (pi {Two #2 #1} (pi {Two #2 #2} {Two #4 #3})))))"),
			api.Family{Name: "Two", Params: read("(sort [0])", "(sort [0])"), Sort: the("(sort [1])"), Ctors: []api.CtorForm{
				{Name: "c0", Fields: read("{Two #0 #1}", "{Two #2 #1}", "{Two #2 #2}"), Rec: []api.RecField{{Field: 1}}},
			}}},
	}
}

// P12.1: the analysed forms of declarations, and the types of constructors
func TestAnalyse(t *testing.T) {
	for _, c := range families() {
		got, err := family.Analyse(c.d)
		if err != api.OK || text(got) != text(c.want) {
			t.Errorf("Analyse: error %d, got\n%s, want\n%s", err, text(got), text(c.want))
		}
		for i, ctor := range c.d.Ctors {
			if of, err := family.CtorType(c.want, i); err != api.OK || !term.Same(of, ctor.Type) {
				t.Errorf("CtorType of %s of %s: got %s, error %d, want %s", ctor.Name, c.d.Name, show(of), err, show(ctor.Type))
			}
		}
		for _, i := range []int{-1, len(c.d.Ctors), len(c.d.Ctors) + 1, 1 << 62, -1 << 63} {
			if of, err := family.CtorType(c.want, i); err != api.ErrRange || !term.Same(of, api.Term{}) {
				t.Errorf("CtorType of constructor %d of %s: got %s, error %d", i, c.d.Name, show(of), err)
			}
		}
	}
	// The other fields of a declaration do not matter.
	d := sample.Decl("(family Nat 0 0 (sort [0]) (ctor Nat.zero Nat) (rec 7 prop prop prop))")
	d.Value, d.Funs = the("none"), []api.Fun{{}}
	got, err := family.Analyse(d)
	if want := "Nat 0 [] | [] | (sort [0]); Nat.zero [] []"; err != api.OK || text(got) != want {
		t.Errorf("Analyse: error %d, got %s, want %s", err, text(got), want)
	}
}

// P12.1: declarations that are not of the right form
func TestErrors(t *testing.T) {
	vec := "(pi (sort [u0]) (pi Nat (sort [u0])))"
	vecNil := "(pi (sort [u0]) {(const Vec [u0]) #0 Nat.zero})"
	two := "(pi (sort [0]) (pi (sort [0]) (sort [1])))"
	for i, d := range []api.Decl{
		// The type of the family
		declared("N", 0, 0, "Nat"), declared("N", 0, 0, "#0"), declared("N", 0, 0, "(lam prop prop)"), declared("N", 0, 0, "(sigma prop prop)"), declared("N", 0, 0, "{prop prop}"), declared("N", 0, 0, "(let prop prop prop)"), declared("N", 0, 0, "{(lam prop #0) prop}"), declared("N", 0, 0, "(pi Nat Nat)"), declared("N", 0, 1, "(pi Nat (let prop prop prop))"),
		declared("N", 0, 1, "prop"), declared("N", 0, 2, "(pi Nat prop)"), declared("N", 0, -1, "prop"), declared("N", 0, -1<<63, "prop"), declared("N", 0, 1<<62, "(pi Nat prop)"), declared("N", 0, 1, "(lam Nat prop)"),
		// The example of the chapter: there are not enough parameters.
		declared("Vec", 1, 2, vec, vecNil),
		// Other parameters
		declared("Vec", 1, 1, vec, "(pi (sort [u0 + 1]) {(const Vec [u0]) #0 Nat.zero})"), declared("Vec", 1, 1, vec, "(pi Nat {(const Vec [u0]) #0 Nat.zero})"), declared("Vec", 1, 1, vec, "{(const Vec [u0]) #0 Nat.zero}"), declared("Vec", 1, 1, vec, "(lam (sort [u0]) {(const Vec [u0]) #0 Nat.zero})"), declared("Vec", 1, 1, vec, "(sigma (sort [u0]) {(const Vec [u0]) #0 Nat.zero})"),
		declared("Vec", 1, 1, vec, "(pi {(lam (sort [9]) #0) (sort [u0])} {(const Vec [u0]) #0 Nat.zero})"), declared("Vec", 1, 1, vec, vecNil, vecNil, "(pi Nat "+vecNil+")"), declared("Vec", 1, 1, vec, "(pi (sort [u0]) (let prop P {(const Vec [u0]) #1 Nat.zero}))"),
		// Other results: the head, its levels, the parameters, and the number of arguments
		declared("Vec", 1, 1, vec, "(pi (sort [u0]) #0)"), declared("Vec", 1, 1, vec, "(pi (sort [u0]) {(const Vec' [u0]) #0 Nat.zero})"), declared("Vec", 1, 1, vec, "(pi (sort [u0]) {#0 #0 Nat.zero})"), declared("Vec", 1, 1, vec, "(pi (sort [u0]) {(lam prop (const Vec [u0])) P #0 Nat.zero})"), declared("Vec", 1, 1, vec, "(pi (sort [u0]) prop)"),
		declared("Vec", 1, 1, vec, "(pi (sort [u0]) {(const Vec [0]) #0 Nat.zero})"), declared("Vec", 1, 1, vec, "(pi (sort [u0]) {(const Vec [u1]) #0 Nat.zero})"), declared("Vec", 1, 1, vec, "(pi (sort [u0]) {(const Vec [u0 + 1]) #0 Nat.zero})"), declared("Vec", 1, 1, vec, "(pi (sort [u0]) {Vec #0 Nat.zero})"), declared("Vec", 1, 1, vec, "(pi (sort [u0]) {(const Vec [u0] [u1]) #0 Nat.zero})"), declared("Vec", 0, 1, vec, vecNil), declared("Vec", 2, 1, vec, vecNil), declared("Vec", -1, 1, vec, vecNil), declared("Vec", 1<<62, 1, vec, vecNil),
		declared("Vec", 1, 1, vec, "(pi (sort [u0]) {(const Vec [u0]) Nat Nat.zero})"), declared("Vec", 1, 1, vec, "(pi (sort [u0]) (pi #0 {(const Vec [u0]) #0 Nat.zero}))"), declared("Vec", 1, 1, vec, "(pi (sort [u0]) {(const Vec [u0]) {(lam prop #1) P} Nat.zero})"), declared("Vec", 1, 1, vec, "(pi (sort [u0]) {(const Vec [u0]) #0})"), declared("Vec", 1, 1, vec, "(pi (sort [u0]) {(const Vec [u0]) #0 Nat.zero Nat.zero})"), declared("Vec", 1, 1, vec, "(pi (sort [u0]) (const Vec [u0]))"),
		declared("Two", 0, 2, two, "(pi (sort [0]) (pi (sort [0]) {Two #0 #1}))"), declared("Two", 0, 2, two, "(pi (sort [0]) (pi (sort [0]) {Two #1 #1}))"), declared("Two", 0, 2, two, "(pi (sort [0]) (pi (sort [0]) {Two #0 #0}))"), declared("Two", 0, 2, two, "(pi (sort [0]) {Two #0 #0})"), declared("Two", 0, 2, two, "(pi (sort [0]) (pi (sort [0]) (pi Nat {Two #1 #0})))"), declared("W", 2, 0, "prop", "(const W [u1] [u0])"), declared("W", 2, 0, "prop", "(const W [u0] [u0])"),
	} {
		if got, err := family.Analyse(d); err != api.ErrForm || text(got) != text(api.Family{}) {
			t.Errorf("Analyse of declaration %d: error %d, got %s", i, err, text(got))
		}
	}
	for _, kind := range []int{api.DeclAxiom, api.DeclDef, api.DeclTheorem, api.DeclFunctions, -1, 5} {
		for _, d := range []api.Decl{declared("Vec", 1, 1, vec, vecNil), declared("Vec", 1, 2, "Nat")} {
			d.Kind = kind
			if got, err := family.Analyse(d); err != api.ErrArg || text(got) != text(api.Family{}) {
				t.Errorf("Analyse of a declaration of the kind %d: error %d, got %s", kind, err, text(got))
			}
		}
	}
}

// P12.2: families that are applied to all their arguments
func TestApplied(t *testing.T) {
	env := append(sample.Typed(), declared("Eq1", 1, 1, "(pi (sort [u0]) (pi #0 (pi #1 prop)))"), declared("Hidden", 0, 0, "(let prop P (pi Nat prop))"))
	if at, err := signature.Check(env[:len(env)-2]); err != api.OK {
		t.Fatalf("Check: error %d at %d", err, at)
	}
	for _, c := range []struct {
		source, levels  string
		params, indices []api.Term
	}{
		{"Nat", "[]", nil, nil}, {"False", "[]", nil, nil}, {"Hidden", "[]", nil, nil}, {"{(const Vec [u0]) #0 #1}", "[{0 [{0 0}]}]", read("#0"), read("#1")}, {"{(const Vec [3]) {#0 #1} {plus #1 two}}", "[{3 []}]", read("{#0 #1}"), read("{plus #1 two}")}, {"{(const Eq [?2]) (pi Nat Nat) #1 (lam Nat #0)}", "[{0 [{-3 0}]}]", read("(pi Nat Nat)", "#1"), read("(lam Nat #0)")}, {"{(const Eq1 [0]) #0 #1 ?2}", "[{0 []}]", read("#0"), read("#1", "?2")},
		// Neither the levels nor the types of the arguments matter.
		{"(const Nat [0])", "[{0 []}]", nil, nil}, {"{Vec prop prop}", "[]", read("prop"), read("prop")}, {"{(const Vec [0] [1]) none {none none}}", "[{0 []} {1 []}]", read("none"), read("{none none}")},
	} {
		d, levels, params, indices, ok := family.Applied(env, the(c.source))
		head, _ := spines.Of(the(c.source))
		entry, _ := signature.Find(env, head.Name)
		if !ok || fmt.Sprint(d) != fmt.Sprint(env[entry.Decl]) || fmt.Sprint(levels) != c.levels || list(params) != list(c.params) || list(indices) != list(c.indices) {
			t.Errorf("Applied(%s): got %s, %v, %s, %s, %v", c.source, d.Name, levels, list(params), list(indices), ok)
		}
	}
	for _, source := range []string{
		"{Nat #0}", "(const Vec [0])", "{(const Vec [0]) Nat}", "{(const Vec [0]) Nat 0 0}", "{(const Eq [0]) Nat 0}", "{Hidden 0}",
		// Other heads
		"Nat.zero", "{Nat.succ 0}", "{(const Vec.nil [0]) Nat}", "{(const Vec.cons [0]) Nat 0}", "(const Nat.rec [0])", "{(const Vec.rec [0] [0]) Nat 0}", "A", "two", "{plus 0 0}", "same", "none", "{none 0 0}", "#0", "{#0 #1}", "?0", "prop", "(sort [0])", "{Tuple 0}", "(lam Nat Nat)", "(pi Nat Nat)", "(fst Nat)", "(sigma Nat Nat)",
		// What is a family after a reduction
		"{(lam prop #0) Nat}", "(let (sort [0]) Nat #0)", "(fst (pair (sigma (sort [0]) #0) Nat 0))", "{(const id [1]) (sort [0]) Nat}", "{(lam prop (const Vec [0])) P Nat 0}",
	} {
		checkNotApplied(t, env, the(source))
	}
	checkNotApplied(t, nil, the("Nat"))
	// The first declaration counts.
	checkNotApplied(t, append([]api.Decl{sample.Decl("(axiom Nat 0 prop)")}, env...), the("Nat"))
}

func checkNotApplied(t *testing.T, env []api.Decl, from api.Term) {
	t.Helper()
	d, levels, params, indices, ok := family.Applied(env, from)
	if ok || fmt.Sprint(d) != fmt.Sprint(api.Decl{}) || len(slices.Concat(params, indices)) > 0 || len(levels) > 0 {
		t.Errorf("Applied(%s): got %s, %v, %s, %s, %v", show(from), d.Name, levels, list(params), list(indices), ok)
	}
}
