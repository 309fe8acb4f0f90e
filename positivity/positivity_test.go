package positivity_test

import (
	"fmt"
	"slices"
	"strings"
	"testing"

	"euclid/api"
	"euclid/family"
	"euclid/positivity"
	"euclid/sample"
)

var tm, x, the, show = sample.Node, sample.Var, sample.Parse, sample.Show

// declared returns a family: its name, level parameters, Fixed and type, and the types of its constructors, which are called c0, c1, ..
func declared(name string, params, fixed int, of string, ctors ...string) api.Decl {
	d := api.Decl{Kind: api.DeclFamily, Name: name, Params: params, Fixed: fixed, Type: the(of)}
	for i, c := range ctors {
		d.Ctors = append(d.Ctors, api.Ctor{Name: fmt.Sprint("c", i), Type: the(c)})
	}
	return d
}

// simple returns the family D in Sort 0, without parameters and indices.
func simple(ctors ...string) api.Decl { return declared("D", 0, 0, "(sort [0])", ctors...) }

// indexed returns the family I with one index in Nat.
func indexed(ctors ...string) api.Decl { return declared("I", 0, 0, "(pi Nat (sort [0]))", ctors...) }

func wantCheck(t *testing.T, d api.Decl, ctor, field int, want api.Errno) {
	t.Helper()
	if c, f, err := positivity.Check(d); c != ctor || f != field || err != want {
		t.Errorf("Check of %s: got %d, %d, error %d, want %d, %d, error %d", types(d), c, f, err, ctor, field, want)
	}
}

// types returns the types of a declaration as text.
func types(d api.Decl) string {
	parts := []string{show(d.Type)}
	for _, c := range d.Ctors {
		parts = append(parts, show(c.Type))
	}
	return d.Name + ": " + strings.Join(parts, " | ")
}

// P13.1: families that are accepted
func TestAccepted(t *testing.T) {
	for _, d := range []api.Decl{
		simple(), simple("D"), simple("D", "(pi D D)"), simple("(pi D (pi D (pi Nat D)))"),
		// The example of the chapter, and more arguments
		declared("Ord", 0, 0, "(sort [0])", "Ord", "(pi Ord Ord)", "(pi (pi Nat Ord) Ord)"),
		simple("(pi (pi Nat (pi prop (pi #0 D))) D)", "(pi (pi (pi Nat Nat) D) (pi D D))"),
		declared("Vec", 1, 1, "(pi (sort [u0]) (pi Nat (sort [u0])))", "(pi (sort [u0]) {(const Vec [u0]) #0 Nat.zero})",
			"(pi (sort [u0]) (pi Nat (pi #1 (pi {(const Vec [u0]) #2 #1} {(const Vec [u0]) #3 {Nat.succ #2}}))))"),
		declared("W", 2, 2, "(pi (sort [u0]) (pi (pi #0 (sort [u1])) (sort [max(u0, u1)])))", "(pi (sort [u0]) (pi (pi #0 (sort [u1])) (pi #1 (pi (pi {#1 #0} {(const W [u0] [u1]) #3 #2}) {(const W [u0] [u1]) #3 #2}))))"),
		declared("Acc", 1, 2, "(pi (sort [u0]) (pi (pi #0 (pi #1 prop)) (pi #1 prop)))", "(pi (sort [u0]) (pi (pi #0 (pi #1 prop)) (pi #1 (pi (pi #2 (pi {#2 #0 #1} {(const Acc [u0]) #4 #3 #1})) {(const Acc [u0]) #3 #2 #1}))))"),
		indexed("(pi Nat (pi {I #0} (pi (pi Nat {I {plus #0 #2}}) {I {plus #2 #2}})))"),
		// Names of other constants that look like the family's
		simple("(pi {D.rec D'} (pi (pi D.c {d D2}) D))"),
		// Only the types of the constructors matter, not that of the family.
		declared("D", 0, 1, "(pi D (pi (pi D Nat) (sort [0])))", "(pi D {D #0 #0})"),
	} {
		wantCheck(t, d, 0, 0, api.OK)
	}
}

// P13.1: the first thing that is not allowed
func TestRefused(t *testing.T) {
	for _, c := range []struct {
		d           api.Decl
		ctor, field int
	}{
		// The examples of the chapter
		{simple("(pi (pi D Nat) D)"), 0, 0}, {simple("(pi Nat (pi (pi (pi D Nat) D) D))"), 0, 1},
		// A domain of a field: at first, behind others, within a term, or twice to the left
		{simple("(pi (pi D D) D)"), 0, 0}, {simple("(pi (pi Nat (pi D D)) D)"), 0, 0}, {simple("(pi (pi (pi Nat D) D) D)"), 0, 0}, {simple("(pi (pi (pi (pi D Nat) Nat) D) D)"), 0, 0}, {simple("(pi (pi {List D} D) D)"), 0, 0}, {simple("(pi (pi {(lam D Nat) Nat} D) D)"), 0, 0},
		{simple("D", "(pi D D)", "(pi D (pi Nat (pi (pi Nat D) (pi (pi D D) (pi (pi D D) D)))))", "(pi (pi D D) D)"), 2, 3},
		// The family in a field that is not recursive: in an argument, in parts of other terms, or with levels and arguments that are not its own
		{simple("(pi {List D} D)"), 0, 0}, {simple("(pi (pi Nat {List D}) D)"), 0, 0}, {simple("(pi D (pi (sigma D Nat) D))"), 0, 1}, {simple("(pi (sigma Nat D) D)"), 0, 0}, {simple("(pi (lam D Nat) D)"), 0, 0}, {simple("(pi (let (sort [0]) D Nat) D)"), 0, 0}, {simple("(pi (let (sort [0]) Nat D) D)"), 0, 0}, {simple("(pi (let D Nat #0) D)"), 0, 0}, {simple("(pi (fst D) D)"), 0, 0}, {simple("(pi (snd (pair Nat Nat D)) D)"), 0, 0}, {simple("(pi (fst (pair D Nat Nat)) D)"), 0, 0}, {simple("(pi {#0 D} D)"), 0, 0}, {simple("(pi {D D} D)"), 0, 0},
		{simple("(pi {D Nat} D)"), 0, 0}, {simple("(pi (const D [0]) D)"), 0, 0}, {simple("(pi (pi Nat (const D [u0])) D)"), 0, 0},
		{declared("L", 1, 1, "(pi (sort [u0]) (sort [u0]))", "(pi (sort [u0]) (pi #0 (pi {(const L [u0]) #1} {(const L [u0]) #2})))", "(pi (sort [u0]) (pi #0 (pi {(const L [u0]) (sigma #1 #1)} {(const L [u0]) #2})))"), 1, 1},
		{declared("L", 1, 1, "(pi (sort [u0]) (sort [u0]))", "(pi (sort [u0]) (pi {(const L [u0 + 1]) #0} {(const L [u0]) #1}))"), 0, 0},
		{declared("L", 1, 1, "(pi (sort [u0]) (sort [u0]))", "(pi (sort [u0]) (pi (pi #0 {(const L [u0]) #1}) (pi (pi #1 {(const L [u0]) #1}) {(const L [u0]) #2})))"), 0, 1},
		{declared("L", 1, 1, "(pi (sort [u0]) (sort [u0]))", "(pi (sort [u0]) (pi (const L [u0]) {(const L [u0]) #1}))"), 0, 0},
		// The index terms of a field
		{indexed("(pi Nat (pi {I {plus #0 {f I}}} {I #1}))"), 0, 1}, {indexed("(pi (pi Nat {I {f {I 0}}}) {I 0})"), 0, 0},
		// The index terms of the result, to which the number of fields belongs
		{indexed("{I {f I}}"), 0, 0}, {indexed("{I 0}", "(pi Nat (pi {I #0} {I {f {I #1}}}))"), 1, 2}, {declared("I", 0, 0, "(pi Nat (pi Nat prop))", "(pi Nat {I 0 {f (lam {I 0 0} #0)}})"), 0, 1},
		// A field comes before the index terms, and these before the next constructor.
		{indexed("(pi Nat (pi {f I} {I {f I}}))"), 0, 1}, {indexed("(pi Nat {I {f I}})", "(pi {f I} {I 0})"), 0, 1}, {indexed("{I {f I}}", "(pi {f I} {I 0})"), 0, 0},
		// In Prop, too
		{declared("D", 0, 0, "prop", "(pi (pi D prop) D)"), 0, 0},
	} {
		wantCheck(t, c.d, c.ctor, c.field, api.ErrPositive)
	}
}

// P13.1: the error of family.Analyse comes first.
func TestNoFamilies(t *testing.T) {
	bad := "(pi Nat (pi (pi D D) D))"
	for _, d := range []api.Decl{
		simple(bad, "Nat"), simple(bad, "(pi D {D D})"), declared("D", 0, 0, "Nat", bad), declared("D", 0, 1, "(sort [0])", bad), declared("D", 1, 0, "(sort [0])", bad), declared("D", 0, -1, "(sort [0])", bad), indexed("{I 0}", "(pi {f I} I)"),
	} {
		wantCheck(t, d, 0, 0, api.ErrForm)
		for _, kind := range []int{api.DeclAxiom, api.DeclDef, api.DeclTheorem, api.DeclFunctions, -1, 5} {
			d.Kind = kind
			wantCheck(t, d, 0, 0, api.ErrArg)
		}
	}
	d := simple(bad)
	d.Kind = api.DeclAxiom
	wantCheck(t, d, 0, 0, api.ErrArg)
	wantCheck(t, api.Decl{}, 0, 0, api.ErrArg)
}

// P13.2: types with the constant D
func TestPositive(t *testing.T) {
	for source, want := range map[string]bool{
		// The examples of the chapter
		"(pi D D)": false, "(pi Nat D)": true, "{D D}": false,
		// It does not occur.
		"Nat": true, "#0": true, "prop": true, "(sort [u0])": true, "?0": true, "(pi (pi Nat prop) #0)": true, "(sigma Nat {f (lam #0 #0)})": true, "(pi D.rec {E D'})": true, "(let prop P #0)": true,
		// It is applied, with any levels.
		"D": true, "(const D [u0] [7])": true, "{D Nat}": true, "{(const D [?0]) #0 (lam Nat #0) 5}": true, "{D Nat D}": false, "{D D Nat}": false, "{D (pi Nat D)}": false, "{D {f {D Nat}}}": false, "{D (lam D Nat)}": false, "{D (pair Nat D Nat)}": false,
		// Something else is applied.
		"{List D}": false, "{#0 D}": false, "{?0 D}": false, "{(lam prop D) Nat}": false, "{(lam D #0) Nat}": false, "{(let prop P D) Nat}": false, "{(fst D) Nat}": false, "{(pi Nat D) Nat}": false,
		// Function types
		"(pi Nat {D #0 Nat})": true, "(pi Nat (pi #0 (pi prop (const D [3]))))": true, "(pi D Nat)": false, "(pi (pi Nat D) D)": false, "(pi (pi D Nat) D)": false, "(pi {D 0} D)": false, "(pi Nat (pi D D))": false, "(pi Nat (pi {f D} Nat))": false, "(pi Nat (pi Nat {D D}))": false, "(pi Nat {f D})": false, "(pi Nat (sigma Nat D))": false,
		// Parts of other terms; nothing is reduced.
		"(sigma Nat D)": false, "(sigma D Nat)": false, "(lam Nat D)": false, "(lam D Nat)": false, "(pair D Nat Nat)": false, "(pair Nat D Nat)": false, "(pair Nat Nat D)": false, "(fst D)": false, "(snd D)": false, "(let D Nat Nat)": false, "(let Nat D Nat)": false, "(let Nat Nat D)": false, "{(lam prop Nat) D}": false, "{(lam prop #0) D}": false,
	} {
		if got := positivity.Positive(the(source), "D"); got != want {
			t.Errorf("Positive(%s, D): got %v", source, got)
		}
		other := strings.NewReplacer("D.rec", "E.rec", "D'", "E'", "D", "E").Replace(source)
		if !positivity.Positive(the(other), "D") {
			t.Errorf("Positive(%s, D): got false", other)
		}
	}
	for _, name := range []string{"", "none", "sort", "Nat.zer", "Nat.zero.a", "#0"} {
		if !positivity.Positive(the("(pi {f (pi Nat 0)} (pi prop Nat))"), name) {
			t.Errorf("Positive: %q is said to occur", name)
		}
	}
}

// wrong returns terms that term.Check refuses.
func wrong() []api.Term {
	deep, double, long := x(0), the("D"), the("D")
	for range 1 << 15 {
		deep, long = tm(api.Pi, deep, x(0)), tm(api.App, long, x(0))
	}
	far := the("D")
	for range 1 << 15 {
		far = tm(api.Pi, x(0), far)
	}
	for range 60 {
		double = tm(api.Pi, double, double)
	}
	return []api.Term{deep, double, long, far, x(-1), x(-1 << 63), x(1<<63 - 1), tm(api.App), tm(api.App, the("D")), tm(api.App, tm(api.App), the("D")), tm(api.Pi), tm(api.Pi, the("D")), tm(api.Pi, tm(api.Pi), tm(api.App)), tm(api.Lam), tm(api.Fst), tm(api.Sort), tm(-1, the("D")), tm(99), tm(api.Prop, the("D")), {Kind: api.Const}, {Kind: api.Var, Name: "D", Kids: []api.Term{the("D")}}}
}

// The functions return for arguments that they need not accept.
func TestOtherArguments(t *testing.T) {
	odd := wrong()
	for i, a := range odd {
		b := odd[(i+3)%len(odd)]
		for _, from := range []api.Term{a, tm(api.Pi, a, b), tm(api.Pi, the("Nat"), a), tm(api.App, the("D"), a), tm(api.App, a, the("D")), tm(api.Sigma, a, b)} {
			positivity.Positive(from, "D")
			positivity.Positive(from, "")
			for _, fixed := range []int{0, 1, -1, 1<<63 - 1} {
				d := api.Decl{Kind: api.DeclFamily, Name: "D", Fixed: fixed, Params: fixed, Type: tm(api.Pi, a, tm(api.Prop)), Ctors: []api.Ctor{{Type: from}, {Type: tm(api.Pi, a, tm(api.App, the("D"), from))}, {Type: tm(api.Pi, from, tm(api.App, the("D"), b))}}}
				positivity.Check(d)
			}
		}
	}
}

// Arguments stay as they are, with what is behind their ends.
func TestMemory(t *testing.T) {
	vec := declared("Vec", 1, 1, "(pi (sort [u0]) (pi Nat (sort [u0])))", "(pi (sort [u0]) {(const Vec [u0]) #0 Nat.zero})",
		"(pi (sort [u0]) (pi (pi Nat {(const Vec [u0]) #1 #0}) {(const Vec [u0]) #1 2}))", "(pi (sort [u0]) (pi (pi {(const Vec [u0]) #0 3} Nat) {(const Vec [u0]) #1 2}))")
	vec.Ctors = append(vec.Ctors, api.Ctor{Name: "behind"})[:3]
	whole := vec.Ctors[:4]
	before := fmt.Sprint(vec, whole)
	for range 2 {
		wantCheck(t, vec, 2, 0, api.ErrPositive)
	}
	field := the("{D Nat (pi Nat D)}")
	field.Kids = append(field.Kids, the("behind"))[:2]
	if positivity.Positive(field, "D") || positivity.Positive(field, "Nat") || !positivity.Positive(field, "behind") {
		t.Error("Positive of a type with something behind its end")
	}
	if _, err := family.Analyse(vec); err != api.OK || fmt.Sprint(vec, whole) != before || !slices.Equal([]string{show(field), show(field.Kids[:3][2])}, []string{show(the("{D Nat (pi Nat D)}")), "behind"}) {
		t.Error("an argument was modified")
	}
}
