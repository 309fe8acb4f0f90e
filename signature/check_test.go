package signature_test

import (
	"fmt"
	"math"
	"slices"
	"strings"
	"testing"

	"euclid/api"
	"euclid/signature"
)

// fault makes one thing in the last declaration of an environment wrong.
type fault struct {
	what string
	make func(d *api.Decl)
	err  api.Errno
}

// wantFirstErrors checks that of each two faults, which are in the order of the checks, the first determines the error.
func wantFirstErrors(t *testing.T, source string, faults []fault) {
	t.Helper()
	faulty := func(some ...fault) []api.Decl {
		env := append(library(), decls(source)...)
		for _, f := range some {
			f.make(&env[len(env)-1])
		}
		return env
	}
	wantCheck(t, "no fault", faulty(), 0, api.OK)
	at := len(library())
	for i, first := range faults {
		wantCheck(t, first.what, faulty(first), at, first.err)
		for _, second := range faults[i+1:] {
			wantCheck(t, first.what+" and "+second.what, faulty(second, first), at, first.err)
		}
		// Of errors in two declarations the first one counts.
		later := append(faulty(first), api.Decl{Kind: 7})
		wantCheck(t, first.what+" and a later error", later, at, first.err)
		sooner := slices.Concat([]api.Decl{{Kind: -1}}, faulty(first))
		wantCheck(t, first.what+" and an earlier error", sooner, 0, api.ErrArg)
	}
}

// P7.1
func TestLibraryIsInOrder(t *testing.T) {
	wantCheck(t, "no declarations", nil, 0, api.OK)
	env := library()
	for n := range env {
		wantCheck(t, fmt.Sprintf("%d declarations", n), env[:n], 0, api.OK)
	}
	wantCheck(t, "Nat twice", decls(natText, natText), 1, api.ErrTwice)
	wantCheck(t, "Vec without Nat", decls(vecText), 0, api.ErrNone)
	wantCheck(t, "a constant that is declared later", decls("(axiom a 0 b)", "(axiom b 0 prop)"), 0, api.ErrNone)
}

// P7.1
func TestManyDeclarations(t *testing.T) {
	var env []api.Decl
	for i := range 1002 {
		env = append(env, api.Decl{Name: fmt.Sprint("a", i), Type: tm(api.Prop)})
	}
	wantCheck(t, "1000 declarations", env[:1000], 0, api.OK)
	wantCheck(t, "1001 declarations", env[:1001], 1000, api.ErrMany)
	wantCheck(t, "1002 declarations", env, 1000, api.ErrMany)
	env[3].Kind = 9
	wantCheck(t, "1002 declarations with an error", env, 1000, api.ErrMany)
	wantCheck(t, "1000 declarations with an error", env[:1000], 3, api.ErrArg)
}

// unusedFields has a fault for each field that an axiom does not use.
func unusedFields() []fault {
	return []fault{
		{"a value", func(d *api.Decl) { d.Value = tm(api.Prop) }, api.ErrForm},
		{"fixed parameters", func(d *api.Decl) { d.Fixed = -1 }, api.ErrForm},
		{"constructors", func(d *api.Decl) { d.Ctors = []api.Ctor{{}} }, api.ErrForm},
		{"parameters of a recursor", func(d *api.Decl) { d.Rec.Params = 1 }, api.ErrForm},
		{"the type of a recursor", func(d *api.Decl) { d.Rec.Type = x(1) }, api.ErrForm},
		{"rules", func(d *api.Decl) { d.Rec.Rules = []api.Term{{}} }, api.ErrForm},
		{"functions", func(d *api.Decl) { d.Funs = []api.Fun{{}} }, api.ErrForm},
	}
}

// P7.1
func TestFaultsOfAxioms(t *testing.T) {
	wantFirstErrors(t, "(axiom new 1 (pi Nat (sort [u0])))", slices.Concat(
		[]fault{{"an unknown kind", func(d *api.Decl) { d.Kind = 5 }, api.ErrArg}},
		unusedFields(),
		[]fault{
			{"nine parameters", func(d *api.Decl) { d.Params = 9 }, api.ErrRange},
			{"no name", func(d *api.Decl) { d.Name = "" }, api.ErrName},
			{"a name that is used", func(d *api.Decl) { d.Name = "Vec.rec" }, api.ErrTwice},
			{"a variable", func(d *api.Decl) { d.Type = the("(app none #0)") }, api.ErrScope},
			{"an unknown constant", func(d *api.Decl) { d.Type = the("(app none (const id [0] [0]))") }, api.ErrNone},
			{"a level too many", func(d *api.Decl) { d.Type = the("(app (const id [0] [0]) none)") }, api.ErrLevel},
		}))
	for _, kind := range []int{-1, 6, math.MinInt, math.MaxInt} {
		wantCheck(t, "an unknown kind", []api.Decl{{Kind: kind, Name: "a", Type: tm(api.Prop)}}, 0, api.ErrArg)
	}
}

// P7.1
func TestFaultsOfDefinitions(t *testing.T) {
	for _, kind := range []string{"def", "theorem"} {
		wantFirstErrors(t, "("+kind+" new 2 (sort [u1]) (const id [u0]))", slices.Concat(
			[]fault{{"an unknown kind", func(d *api.Decl) { d.Kind = -1 }, api.ErrArg}},
			unusedFields()[1:],
			[]fault{
				{"negative parameters", func(d *api.Decl) { d.Params = -1 }, api.ErrRange},
				{"a wrong name", func(d *api.Decl) { d.Name = "a." }, api.ErrName},
				{"a name that is used", func(d *api.Decl) { d.Name = "double" }, api.ErrTwice},
				{"a metavariable", func(d *api.Decl) { d.Type = the("?0") }, api.ErrMeta},
				{"the name itself", func(d *api.Decl) { d.Type = the("(const new [0] [0])") }, api.ErrNone},
				{"a level is missing", func(d *api.Decl) { d.Type = con("id") }, api.ErrLevel},
				{"a level parameter in the value", func(d *api.Decl) { d.Value = the("(sort [u2])") }, api.ErrLevel},
				{"a level metavariable in the value", func(d *api.Decl) { d.Value = the("(sort [?0])") }, api.ErrMeta},
				{"the name itself in the value", func(d *api.Decl) { d.Value = the("(const new [0] [0])") }, api.ErrNone},
				{"a level is missing in the value", func(d *api.Decl) { d.Value = the("(app prop Vec)") }, api.ErrLevel},
			}))
	}
}

const newFamily = `(family New 1 1 (pi (sort [u0]) (pi Nat (sort [u0])))
	(ctor New.a (pi (sort [u0]) (app (const New [u0]) #0))) (ctor New.b (pi prop (pi (const New [0]) prop)))
	(rec 2 (pi (const New [u1]) (const New.a [u0])) (const New.rec [u0] [u1]) (const New.b [0])))`

// P7.1
func TestFaultsOfFamilies(t *testing.T) {
	wantFirstErrors(t, newFamily, []fault{
		{"an unknown kind", func(d *api.Decl) { d.Kind = 17 }, api.ErrArg},
		{"a value", func(d *api.Decl) { d.Value = x(2) }, api.ErrForm},
		{"functions", func(d *api.Decl) { d.Funs = []api.Fun{{}} }, api.ErrForm},
		{"nine parameters", func(d *api.Decl) { d.Params = 9 }, api.ErrRange},
		{"negative fixed parameters", func(d *api.Decl) { d.Fixed = -1 }, api.ErrRange},
		{"33 constructors", func(d *api.Decl) { d.Ctors = repeated(33, d.Ctors[0]) }, api.ErrMany},
		{"too few parameters of the recursor", func(d *api.Decl) { d.Rec.Params = 0 }, api.ErrForm},
		{"too many parameters of the recursor", func(d *api.Decl) { d.Rec.Params = 3 }, api.ErrForm},
		{"too few rules", func(d *api.Decl) { d.Rec.Rules = d.Rec.Rules[:1] }, api.ErrForm},
		{"too many rules", func(d *api.Decl) { d.Rec.Rules = repeated(3, x(0)) }, api.ErrForm},
		{"a type with too few parameters", func(d *api.Decl) { d.Type = con("none") }, api.ErrForm},
		{"a type with a damaged parameter", func(d *api.Decl) { d.Type = tm(api.Pi, x(0), x(0), x(0)) }, api.ErrForm},
		{"a constructor with too few parameters", func(d *api.Decl) { d.Ctors[1].Type = x(99) }, api.ErrForm},
		{"a wrong name", func(d *api.Decl) { d.Name = "New-" }, api.ErrName},
		{"a name that is used", func(d *api.Decl) { d.Name = "plus" }, api.ErrTwice},
		{"the wrong name of a constructor", func(d *api.Decl) { d.Ctors[0].Name = "1" }, api.ErrName},
		{"a constructor with the name of the family", func(d *api.Decl) { d.Ctors[0].Name = d.Name }, api.ErrTwice},
		{"a constructor with the name of another one", func(d *api.Decl) { d.Ctors[1].Name = d.Ctors[0].Name }, api.ErrTwice},
		{"a constructor with the name of the recursor", func(d *api.Decl) { d.Ctors[1].Name = d.Name + ".rec" }, api.ErrTwice},
		{"the type", func(d *api.Decl) { d.Type = the("(pi #0 prop)") }, api.ErrScope},
		{"the family in its type", func(d *api.Decl) { d.Type = the("(pi (const New [0]) prop)") }, api.ErrNone},
		{"the levels of a constant in the type", func(d *api.Decl) { d.Type = the("(pi id prop)") }, api.ErrLevel},
		{"the first constructor", func(d *api.Decl) { d.Ctors[0].Type = the("(pi prop #1)") }, api.ErrScope},
		{"the first constructor in its type", func(d *api.Decl) { d.Ctors[0].Type = the("(pi prop (const New.a [0]))") }, api.ErrNone},
		{"the levels of the family", func(d *api.Decl) { d.Ctors[0].Type = the("(pi prop New)") }, api.ErrLevel},
		{"the second constructor", func(d *api.Decl) { d.Ctors[1].Type = the("(pi prop (sort [u1]))") }, api.ErrLevel},
		{"the type of the recursor", func(d *api.Decl) { d.Rec.Type = the("(sort [u2])") }, api.ErrLevel},
		{"the recursor in its type", func(d *api.Decl) { d.Rec.Type = the("(const New.rec [0] [0])") }, api.ErrNone},
		{"the levels of a constructor", func(d *api.Decl) { d.Rec.Type = the("(const New.a [0] [0])") }, api.ErrLevel},
		{"the first rule", func(d *api.Decl) { d.Rec.Rules[0] = x(0) }, api.ErrScope},
		{"the levels of the recursor", func(d *api.Decl) { d.Rec.Rules[0] = the("(const New.rec [0])") }, api.ErrLevel},
		{"the second rule", func(d *api.Decl) { d.Rec.Rules[1] = con("none") }, api.ErrNone},
	})
}

const newBlock = `(functions 1
	(fun f 2 (pi Nat (pi Nat Nat)) (split 1 (branch Nat.zero (leaf #1)) (absurd Vec.nil) (branch Nat.succ (split 2 (branch Nat.succ (leaf (app #3 (const g [u0]))))))))
	(fun g 1 Nat (leaf (app (const f [0]) #0))))`

// P7.1
func TestFaultsOfFunctions(t *testing.T) {
	first := func(d *api.Decl) *api.Tree { return &d.Funs[0].Tree }
	wantFirstErrors(t, newBlock, []fault{
		{"an unknown kind", func(d *api.Decl) { d.Kind = -17 }, api.ErrArg},
		{"a name", func(d *api.Decl) { d.Name = "a" }, api.ErrForm},
		{"a type", func(d *api.Decl) { d.Type = tm(api.Prop) }, api.ErrForm},
		{"a value", func(d *api.Decl) { d.Value = tm(api.Prop) }, api.ErrForm},
		{"fixed parameters", func(d *api.Decl) { d.Fixed = 1 }, api.ErrForm},
		{"constructors", func(d *api.Decl) { d.Ctors = []api.Ctor{{}} }, api.ErrForm},
		{"parameters of a recursor", func(d *api.Decl) { d.Rec.Params = 2 }, api.ErrForm},
		{"nine parameters", func(d *api.Decl) { d.Params = 9 }, api.ErrRange},
		{"nine functions", func(d *api.Decl) { d.Funs = append(slices.Clip(d.Funs), repeated(7, api.Fun{})...) }, api.ErrMany},
		{"no arity", func(d *api.Decl) { d.Funs[0].Arity = 0 }, api.ErrForm},
		{"a second arity that is too great", func(d *api.Decl) { d.Funs[1].Arity = 17 }, api.ErrForm},
		{"a wrong name", func(d *api.Decl) { d.Funs[0].Name = "f g" }, api.ErrName},
		{"a name that is used", func(d *api.Decl) { d.Funs[0].Name = "Nat.rec" }, api.ErrTwice},
		{"no second name", func(d *api.Decl) { d.Funs[1].Name = "" }, api.ErrName},
		{"the same name twice", func(d *api.Decl) { d.Funs[1].Name = d.Funs[0].Name }, api.ErrTwice},
		{"the first type", func(d *api.Decl) { d.Funs[0].Type = x(0) }, api.ErrScope},
		{"a function in a type", func(d *api.Decl) { d.Funs[0].Type = the("(const f [0])") }, api.ErrNone},
		{"the second type", func(d *api.Decl) { d.Funs[1].Type = con("id") }, api.ErrLevel},
		{"an unknown kind of tree", func(d *api.Decl) { first(d).Kind = 2 }, api.ErrForm},
		{"a split with a body", func(d *api.Decl) { first(d).Body = con("Nat") }, api.ErrForm},
		{"a variable that is too great", func(d *api.Decl) { first(d).Var = 2 }, api.ErrScope},
		{"a negative variable", func(d *api.Decl) { first(d).Var = -1 }, api.ErrScope},
		{"33 branches", func(d *api.Decl) { first(d).Branches = repeated(33, api.Branch{}) }, api.ErrMany},
		{"no constructor", func(d *api.Decl) { first(d).Branches[0].Ctor = "Nat" }, api.ErrNone},
		{"a leaf with a variable", func(d *api.Decl) { first(d).Branches[0].Tree.Var = 1 }, api.ErrForm},
		{"a leaf with branches", func(d *api.Decl) { first(d).Branches[0].Tree.Branches = []api.Branch{absurd("Nat.zero")} }, api.ErrForm},
		{"the variables of a leaf", func(d *api.Decl) { first(d).Branches[0].Tree.Body = x(2) }, api.ErrScope},
		{"a constant in a leaf", func(d *api.Decl) { first(d).Branches[0].Tree.Body = con("h") }, api.ErrNone},
		{"the levels of a function", func(d *api.Decl) { first(d).Branches[0].Tree.Body = con("f") }, api.ErrLevel},
		{"the constructor of an absurd branch", func(d *api.Decl) { first(d).Branches[1].Ctor = "f" }, api.ErrNone},
		{"an absurd branch with a body", func(d *api.Decl) { first(d).Branches[1].Tree.Body = con("Nat") }, api.ErrForm},
		{"an absurd branch with a split", func(d *api.Decl) { first(d).Branches[1].Tree = split(0) }, api.ErrForm},
		{"the constructor of the last branch", func(d *api.Decl) { first(d).Branches[2].Ctor = "Nat.rec" }, api.ErrNone},
		{"the variables of the last branch", func(d *api.Decl) { first(d).Branches[2].Tree.Var = 3 }, api.ErrScope},
		{"the variables of the last leaf", func(d *api.Decl) { first(d).Branches[2].Tree.Branches[0].Tree.Body = x(4) }, api.ErrScope},
		{"the second tree", func(d *api.Decl) { d.Funs[1].Tree.Body = x(1) }, api.ErrScope},
	})
}

// P7.1: the limits are accepted, and what exceeds them is not.
func TestLimits(t *testing.T) {
	in := func(change func(d *api.Decl), source string) []api.Decl {
		env := append(library(), decls(source)...)
		change(&env[len(env)-1])
		return env
	}
	at := len(library())
	for params, err := range map[int]api.Errno{0: api.OK, 8: api.OK, 9: api.ErrRange, -1: api.ErrRange, math.MaxInt: api.ErrRange, math.MinInt: api.ErrRange} {
		env := in(func(d *api.Decl) { d.Params = params }, "(axiom a 0 prop)")
		wantCheck(t, fmt.Sprint(params, " parameters"), env, map[bool]int{false: at}[err == api.OK], err)
	}
	for n, err := range map[int]api.Errno{1: api.OK, 8: api.OK, 9: api.ErrMany, 0: api.ErrMany} {
		env := in(func(d *api.Decl) {
			d.Funs = repeated(n, d.Funs[0])
			for i := range d.Funs {
				d.Funs[i].Name = fmt.Sprint("f", i)
			}
		}, "(functions 0 (fun f 1 prop (leaf #0)))")
		wantCheck(t, fmt.Sprint(n, " functions"), env, map[bool]int{false: at}[err == api.OK], err)
	}
	for arity, err := range map[int]api.Errno{1: api.OK, 16: api.OK, 17: api.ErrForm, 0: api.ErrForm, -1: api.ErrForm, math.MaxInt: api.ErrForm} {
		env := in(func(d *api.Decl) { d.Funs[0].Arity = arity }, "(functions 0 (fun f 1 prop (leaf #0)))")
		wantCheck(t, fmt.Sprint("arity ", arity), env, map[bool]int{false: at}[err == api.OK], err)
	}
	for n, err := range map[int]api.Errno{0: api.OK, 32: api.OK, 33: api.ErrMany} {
		env := in(func(d *api.Decl) {
			for i := range n {
				d.Ctors = append(d.Ctors, api.Ctor{Name: fmt.Sprint("c", i), Type: tm(api.Prop)})
			}
			d.Rec.Rules = repeated(n, tm(api.Prop))
		}, "(family F 0 0 prop (rec 0 prop))")
		wantCheck(t, fmt.Sprint(n, " constructors"), env, map[bool]int{false: at}[err == api.OK], err)
	}
	for n, err := range map[int]api.Errno{0: api.OK, 32: api.OK, 33: api.ErrMany} {
		env := in(func(d *api.Decl) { d.Funs[0].Tree = split(0, repeated(n, absurd("Nat.zero"))...) }, "(functions 0 (fun f 1 prop (leaf #0)))")
		wantCheck(t, fmt.Sprint(n, " branches"), env, map[bool]int{false: at}[err == api.OK], err)
	}
	for fixed, err := range map[int]api.Errno{0: api.OK, 2: api.OK, 3: api.ErrForm, math.MaxInt: api.ErrForm, -1: api.ErrRange} {
		env := in(func(d *api.Decl) { d.Fixed = fixed }, "(family F 0 0 (pi prop (pi prop prop)) (ctor F.c (pi prop (pi prop (pi prop prop)))) (rec 1 prop prop))")
		wantCheck(t, fmt.Sprint(fixed, " fixed parameters"), env, map[bool]int{false: at}[err == api.OK], err)
	}
	// The name of the recursor has four bytes more than that of the family.
	for n, err := range map[int]api.Errno{60: api.OK, 61: api.ErrName, 64: api.ErrName} {
		env := in(func(d *api.Decl) { d.Name = strings.Repeat("F", n) }, "(family F 0 0 prop (rec 0 prop))")
		wantCheck(t, fmt.Sprint("a name of ", n, " bytes"), env, map[bool]int{false: at}[err == api.OK], err)
	}
	wantCheck(t, "8 parameters and 9 of the recursor", decls("(family F 8 0 prop (rec 9 (sort [u7])))"), 0, api.OK)
}

// P7.1: the depth of case trees, and the order of its error.
func TestDeepTrees(t *testing.T) {
	nested := func(depth int, inner api.Tree) []api.Decl {
		for range depth - 1 {
			inner = split(0, branch("Nat.zero", inner))
		}
		return append(library(), api.Decl{Kind: api.DeclFunctions, Funs: []api.Fun{{Name: "f", Arity: 1, Type: con("Nat"), Tree: inner}}})
	}
	at := len(library())
	wantCheck(t, "199 nodes above a leaf", nested(200, leaf(x(0))), 0, api.OK)
	wantCheck(t, "200 nodes above a leaf", nested(201, leaf(x(0))), at, api.ErrDeep)
	wantCheck(t, "199 nodes above an absurd branch", nested(200, split(0, absurd("Nat.zero"))), 0, api.OK)
	wantCheck(t, "199 nodes above a branch without a constructor", nested(200, split(0, branch("none", leaf(x(0))))), at, api.ErrNone)
	wantCheck(t, "199 nodes above a branch", nested(200, split(0, branch("Nat.zero", leaf(x(0))))), at, api.ErrDeep)
	wantCheck(t, "200 nodes above something odd", nested(201, api.Tree{Kind: 9}), at, api.ErrDeep)
	wantCheck(t, "199 nodes above something odd", nested(200, api.Tree{Kind: 9}), at, api.ErrForm)
	wantCheck(t, "a tree without an end", nested(1<<20, leaf(x(0))), at, api.ErrDeep)
	// 199 splits of Vec.cons: each adds three variables.
	tree := leaf(tm(api.App, x(199*3), x(0)))
	for i := 198; i >= 0; i-- {
		tree = split(3*i, branch("Vec.cons", tree))
	}
	env := nested(1, tree)
	wantCheck(t, "597 fields", env, 0, api.OK)
	place := &env[at].Funs[0].Tree
	for place.Kind == api.TreeSplit {
		place = &place.Branches[0].Tree
	}
	place.Body = x(199*3 + 1)
	wantCheck(t, "a variable behind 597 fields", env, at, api.ErrScope)
}

// P7.1: which constants that a declaration declares may occur in which of its terms.
func TestOwnConstants(t *testing.T) {
	places := map[string]struct {
		at      func(d *api.Decl) *api.Term
		allowed string
	}{
		"Type":     {func(d *api.Decl) *api.Term { return &d.Type }, ""},
		"Ctors[0]": {func(d *api.Decl) *api.Term { return &d.Ctors[0].Type }, "T"},
		"Ctors[1]": {func(d *api.Decl) *api.Term { return &d.Ctors[1].Type }, "T"},
		"Rec":      {func(d *api.Decl) *api.Term { return &d.Rec.Type }, "T T.a T.b"},
		"Rules[0]": {func(d *api.Decl) *api.Term { return &d.Rec.Rules[0] }, "T T.a T.b T.rec"},
		"Rules[1]": {func(d *api.Decl) *api.Term { return &d.Rec.Rules[1] }, "T T.a T.b T.rec"},
	}
	for place, p := range places {
		for _, name := range []string{"T", "T.a", "T.b", "T.rec"} {
			for levels := range 4 {
				d := decls("(family T 2 0 prop (ctor T.a prop) (ctor T.b prop) (rec 2 prop prop prop))")
				*p.at(&d[0]) = tm(api.Fst, con(name, repeated(levels, lv(0))...))
				want := api.OK
				if !slices.Contains(strings.Fields(p.allowed), name) {
					want = api.ErrNone
				} else if levels != 2 {
					want = api.ErrLevel
				}
				wantCheck(t, fmt.Sprintf("%s with %d levels in %s", name, levels, place), d, 0, want)
			}
		}
	}
	for _, name := range []string{"f", "g"} {
		for i := range 2 {
			d := decls("(functions 0 (fun f 1 prop (leaf #0)) (fun g 1 prop (leaf #0)))")
			d[0].Funs[i].Tree.Body = con(name)
			wantCheck(t, fmt.Sprintf("%s in body %d", name, i), d, 0, api.OK)
			d[0].Funs[i].Type = con(name)
			wantCheck(t, fmt.Sprintf("%s in type %d", name, i), d, 0, api.ErrNone)
		}
	}
	for _, kind := range []string{"(axiom a 0 a)", "(def a 0 a prop)", "(def a 0 prop a)", "(theorem a 0 prop a)"} {
		wantCheck(t, kind, decls(kind), 0, api.ErrNone)
	}
	// The recursor has a number of level parameters of its own.
	for params := 2; params <= 3; params++ {
		for levels := range 5 {
			d := decls("(family T 2 0 prop (ctor T.a prop) (rec 2 prop prop))", "(axiom a 0 prop)")
			d[0].Rec.Params = params
			d[1].Type = con("T.rec", repeated(levels, lv(0))...)
			d[0].Rec.Rules[0] = con("T.rec", repeated(params, u(params-1, 0))...)
			at, err := 0, api.OK
			if levels != params {
				at, err = 1, api.ErrLevel
			}
			wantCheck(t, fmt.Sprintf("a recursor with %d parameters and %d levels", params, levels), d, at, err)
		}
	}
}

// P7.1: the constants of a term count in preorder, behind all errors of term.Check.
func TestOrderInTerms(t *testing.T) {
	for _, c := range []struct {
		source string
		err    api.Errno
	}{
		{"(app none id)", api.ErrNone},
		{"(app id none)", api.ErrLevel},
		{"(app (app Nat id) none)", api.ErrLevel},
		{"(app (app Nat none) id)", api.ErrNone},
		{"(const none [0])", api.ErrNone},
		{"(app none #7)", api.ErrScope},
		{"(app (app none id) (sort [u0]))", api.ErrLevel},
		{"(app (app none id) (sort [?0]))", api.ErrMeta},
		{"(app (app none id) ?0)", api.ErrMeta},
		{"(app (const id [0]) (app plus (const Vec.rec [1] [2] [3])))", api.OK},
	} {
		at, err := 8, c.err
		if err == api.OK {
			at = 0
		}
		wantCheck(t, c.source, append(library(), api.Decl{Name: "new", Type: the(c.source)}), at, err)
	}
	big := con("none")
	for range 199 {
		big = tm(api.Fst, big)
	}
	wantCheck(t, "depth 200", append(library(), api.Decl{Name: "new", Type: big}), 8, api.ErrNone)
	wantCheck(t, "depth 201", append(library(), api.Decl{Name: "new", Type: tm(api.Fst, big)}), 8, api.ErrDeep)
	wantCheck(t, "no name", append(library(), api.Decl{Name: "new", Type: con("1")}), 8, api.ErrName)
}

// P7.1, P7.2: results share no memory with arguments or each other, and arguments stay as they are.
func TestMemory(t *testing.T) {
	env := library()
	before := fmt.Sprint(env)
	for _, d := range env {
		for _, names := range [][]string{signature.Names(d), signature.Uses(d)} {
			for i := range names {
				names[i] = "spoilt"
			}
		}
		for _, name := range signature.Names(d) {
			e, _ := signature.Find(env, name)
			spoil(&e.Type)
			levels := []api.Level{u(0, 1), u(1, 2), u(2, 3)}[:e.Params]
			a, _ := signature.Type(env, name, levels)
			spoil(&a)
			a, _ = signature.Value(env, name, levels)
			spoil(&a)
			if fmt.Sprint(levels) != fmt.Sprint([]api.Level{u(0, 1), u(1, 2), u(2, 3)}[:e.Params]) {
				t.Errorf("%s: levels were modified", name)
			}
			family, _, _ := signature.Family(env, name)
			again, _, _ := signature.Family(env, name)
			whole := fmt.Sprint(again)
			spoil(&family.Type)
			for i := range family.Ctors {
				family.Ctors[i].Name = "spoilt"
				spoil(&family.Ctors[i].Type)
			}
			spoil(&family.Rec.Type)
			for i := range family.Rec.Rules {
				spoil(&family.Rec.Rules[i])
			}
			if fmt.Sprint(again) != whole {
				t.Errorf("Family(%s): results share memory", name)
			}
		}
	}
	signature.Check(env)
	if fmt.Sprint(env) != before {
		t.Error("the environment was modified")
	}
}

// spoil overwrites everything in a term.
func spoil(t *api.Term) {
	for i := range t.Levels {
		for j := range t.Levels[i].Vars {
			t.Levels[i].Vars[j] = api.LevelVar{Index: 5, Plus: 77}
		}
		t.Levels[i].Const = 99
	}
	for i := range t.Kids {
		spoil(&t.Kids[i])
	}
	*t = api.Term{Kind: 55}
}
