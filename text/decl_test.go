package text_test

import (
	"fmt"
	"math"
	"reflect"
	"strings"
	"testing"

	"euclid/api"
	"euclid/text"
)

func leaf(t api.Term) api.Tree { return api.Tree{Kind: api.TreeLeaf, Body: t} }

func split(variable int, branches ...api.Branch) api.Tree {
	return api.Tree{Kind: api.TreeSplit, Var: variable, Branches: branches}
}

func branch(ctor string, t api.Tree) api.Branch { return api.Branch{Ctor: ctor, Tree: t} }

func absurd(ctor string) api.Branch { return api.Branch{Ctor: ctor, Absurd: true} }

// wantDecl checks the results of ParseDecl; beside an error the declaration has to be zero.
func wantDecl(t *testing.T, source string, wanted api.Decl, wantAt int, wantErr api.Errno) {
	t.Helper()
	got, at, err := text.ParseDecl(source)
	if err != wantErr || at != wantAt || !reflect.DeepEqual(got, wanted) {
		t.Errorf("ParseDecl(%.300q): got %s, error %d at %d, want %s, error %d at %d", source, show(got), err, at, show(wanted), wantErr, wantAt)
	}
}

func wantDeclRefused(t *testing.T, source string, at int) {
	t.Helper()
	wantDecl(t, source, api.Decl{}, at, api.ErrSyntax)
}

// wantPrintDecl checks the error of PrintDecl, beside which there is no text.
func wantPrintDecl(t *testing.T, what string, d api.Decl, wantErr api.Errno) {
	t.Helper()
	got, err := text.PrintDecl(d)
	if err != wantErr || (got == "") != (err != api.OK) {
		t.Errorf("PrintDecl, %s: got %.200q, error %d, want error %d", what, got, err, wantErr)
	}
}

// natDecl is the family of natural numbers, with a recursor of which only the form is right.
func natDecl() api.Decl {
	return api.Decl{Kind: api.DeclFamily, Name: "Nat", Type: sort(lv(0)),
		Ctors: []api.Ctor{{Name: "Nat.zero", Type: nat}, {Name: "Nat.succ", Type: pi(nat, nat)}},
		Rec:   api.Recursor{Params: 1, Type: pi(nat, sort(lv(0, v(0, 0)))), Rules: []api.Term{lam(nat, x(0)), prop}}}
}

// blockDecl has trees of all kinds.
func blockDecl() api.Decl {
	return api.Decl{Kind: api.DeclFunctions, Params: 2, Funs: []api.Fun{
		{Name: "f", Arity: 2, Type: pi(nat, pi(nat, nat)), Tree: split(1,
			branch("Nat.zero", leaf(x(1))),
			absurd("Nat.succ"),
			branch("c", split(12, branch("d", leaf(nat)), branch("e", split(0))))),
		},
		{Name: "g", Type: nat, Tree: leaf(con("f"))},
	}}
}

// P6.2
func TestDeclTexts(t *testing.T) {
	for _, c := range []struct {
		d    api.Decl
		text string
	}{
		{api.Decl{Kind: api.DeclAxiom, Name: "a", Type: nat}, "(axiom a 0 Nat)"},
		{api.Decl{Kind: api.DeclAxiom, Name: "prop", Params: 999999, Type: con("prop")}, "(axiom prop 999999 (const prop))"},
		{api.Decl{Kind: api.DeclAxiom, Name: "a"}, "(axiom a 0 #0)"},
		{api.Decl{Kind: api.DeclDef, Name: "id.nat", Params: 1, Type: pi(nat, nat), Value: lam(nat, x(0))}, "(def id.nat 1 (pi Nat Nat) (lam Nat #0))"},
		{api.Decl{Kind: api.DeclTheorem, Name: "t", Type: prop, Value: meta(2)}, "(theorem t 0 prop ?2)"},
		{natDecl(), "(family Nat 0 0 (sort [0]) (ctor Nat.zero Nat) (ctor Nat.succ (pi Nat Nat)) (rec 1 (pi Nat (sort [u0])) (lam Nat #0) prop))"},
		{api.Decl{Kind: api.DeclFamily, Name: "False", Params: 3, Fixed: 7, Type: prop}, "(family False 3 7 prop (rec 0 #0))"},
		{blockDecl(), "(functions 2 (fun f 2 (pi Nat (pi Nat Nat)) (split 1 (branch Nat.zero (leaf #1)) (absurd Nat.succ) (branch c (split 12 (branch d (leaf Nat)) (branch e (split 0)))))) (fun g 0 Nat (leaf f)))"},
		{api.Decl{Kind: api.DeclFunctions, Params: 7}, "(functions 7)"},
		{api.Decl{Kind: api.DeclFunctions, Funs: []api.Fun{{Name: "pred", Arity: 1, Type: pi(nat, nat), Tree: split(0, branch("Nat.zero", leaf(con("Nat.zero"))), branch("Nat.succ", leaf(x(0))))}}},
			"(functions 0 (fun pred 1 (pi Nat Nat) (split 0 (branch Nat.zero (leaf Nat.zero)) (branch Nat.succ (leaf #0)))))"},
	} {
		got, err := text.PrintDecl(c.d)
		if got != c.text || err != api.OK {
			t.Errorf("PrintDecl(%s): got %q, error %d, want %q", show(c.d), got, err, c.text)
		}
		wantDecl(t, c.text, c.d, 0, api.OK)
	}
	wantDecl(t, " ( def\n\tf 0(pi Nat Nat)(lam Nat #0)) \r\n", api.Decl{Kind: api.DeclDef, Name: "f", Type: pi(nat, nat), Value: lam(nat, x(0))}, 0, api.OK)
	wantDecl(t, "(axiom a 0 (const Nat))", api.Decl{Kind: api.DeclAxiom, Name: "a", Type: nat}, 0, api.OK)
}

// P6.2: lists that are empty but not nil are equal to those that are.
func TestEmptyLists(t *testing.T) {
	empty := api.Term{Levels: []api.Level{}, Kids: []api.Term{}}
	rec := api.Recursor{Type: empty, Rules: []api.Term{}}
	for _, c := range []struct {
		d    api.Decl
		text string
	}{
		{api.Decl{Kind: api.DeclAxiom, Name: "a", Type: nat, Value: empty, Ctors: []api.Ctor{}, Rec: rec, Funs: []api.Fun{}}, "(axiom a 0 Nat)"},
		{api.Decl{Kind: api.DeclFunctions, Type: empty, Value: empty, Ctors: []api.Ctor{}, Rec: rec, Funs: []api.Fun{
			{Name: "f", Type: nat, Tree: api.Tree{Kind: api.TreeSplit, Body: empty, Branches: []api.Branch{{Ctor: "c", Absurd: true, Tree: api.Tree{Body: empty, Branches: []api.Branch{}}}}}},
			{Name: "g", Type: nat, Tree: api.Tree{Body: nat, Branches: []api.Branch{}}},
		}}, "(functions 0 (fun f 0 Nat (split 0 (absurd c))) (fun g 0 Nat (leaf Nat)))"},
	} {
		if got, err := text.PrintDecl(c.d); got != c.text || err != api.OK {
			t.Errorf("PrintDecl(%s): got %q, error %d, want %q", show(c.d), got, err, c.text)
		}
	}
}

// P6.2
func TestUnusedFields(t *testing.T) {
	fields := []struct {
		name string
		set  func(d *api.Decl)
		used string // by the kinds with these numbers
	}{
		{"Name", func(d *api.Decl) { d.Name = "a" }, "0123"},
		{"Params", func(d *api.Decl) { d.Params = 4 }, "01234"},
		{"Type", func(d *api.Decl) { d.Type = prop }, "0123"},
		{"Value", func(d *api.Decl) { d.Value = prop }, "12"},
		{"Fixed", func(d *api.Decl) { d.Fixed = 4 }, "3"},
		{"Ctors", func(d *api.Decl) { d.Ctors = []api.Ctor{{Name: "c"}} }, "3"},
		{"Rec.Params", func(d *api.Decl) { d.Rec.Params = 4 }, "3"},
		{"Rec.Type", func(d *api.Decl) { d.Rec.Type = prop }, "3"},
		{"Rec.Rules", func(d *api.Decl) { d.Rec.Rules = []api.Term{prop} }, "3"},
		{"Funs", func(d *api.Decl) { d.Funs = []api.Fun{{Name: "f"}} }, "4"},
	}
	for kind := api.DeclAxiom; kind <= api.DeclFunctions; kind++ {
		for _, f := range fields {
			d := api.Decl{Kind: kind, Name: "a"}
			if kind == api.DeclFunctions {
				d.Name = ""
			}
			f.set(&d)
			want := api.ErrForm
			if strings.Contains(f.used, fmt.Sprint(kind)) {
				want = api.OK
			}
			wantPrintDecl(t, fmt.Sprintf("kind %d with %s", kind, f.name), d, want)
		}
	}
	for _, kind := range []int{-1, 5, math.MinInt, math.MaxInt} {
		wantPrintDecl(t, "a wrong kind", api.Decl{Kind: kind, Name: "a"}, api.ErrForm)
	}
	// Every field of a term that has to be zero counts.
	for _, a := range []api.Term{{Kind: 1}, {Index: 1}, {Name: "a"}, {Levels: make([]api.Level, 1)}, {Kids: make([]api.Term, 1)}} {
		wantPrintDecl(t, "a value that is not zero", api.Decl{Name: "a", Type: nat, Value: a}, api.ErrForm)
	}
}

// fault makes one thing in a declaration wrong.
type fault struct {
	what string
	make func(d *api.Decl)
	err  api.Errno
}

// wantFirstErrors checks that of each two faults, which are in the order of the text, the first determines the error.
func wantFirstErrors(t *testing.T, fresh func() api.Decl, faults []fault) {
	t.Helper()
	wantPrintDecl(t, "no fault", fresh(), api.OK)
	for i, first := range faults {
		d := fresh()
		first.make(&d)
		wantPrintDecl(t, first.what, d, first.err)
		for _, second := range faults[i+1:] {
			d := fresh()
			second.make(&d)
			first.make(&d)
			wantPrintDecl(t, first.what+", "+second.what, d, first.err)
		}
	}
}

// P6.2
func TestFaultsOfDefinitions(t *testing.T) {
	fresh := func() api.Decl { return api.Decl{Kind: api.DeclDef, Name: "a", Type: nat, Value: nat} }
	wantFirstErrors(t, fresh, []fault{
		{"an unused field", func(d *api.Decl) { d.Fixed = 1 }, api.ErrForm},
		{"the name", func(d *api.Decl) { d.Name = "a." }, api.ErrName},
		{"the number", func(d *api.Decl) { d.Params = -1 }, api.ErrRange},
		{"the type", func(d *api.Decl) { d.Type = nested(200, nat) }, api.ErrDeep},
		{"the value", func(d *api.Decl) { d.Value = x(1000000) }, api.ErrScope},
	})
	wantFirstErrors(t, fresh, []fault{
		{"the name", func(d *api.Decl) { d.Name = "" }, api.ErrName},
		{"the number", func(d *api.Decl) { d.Params = 1000000 }, api.ErrRange},
		{"a type that is too long", func(d *api.Decl) { d.Type = sized(65537) }, api.ErrLong},
		{"the value", func(d *api.Decl) { d.Value = tm(77) }, api.ErrForm},
		{"the whole text", func(d *api.Decl) { d.Value = sized(65530) }, api.ErrLong},
	})
}

// P6.2
func TestFaultsOfFamilies(t *testing.T) {
	wantFirstErrors(t, natDecl, []fault{
		{"an unused field", func(d *api.Decl) { d.Value = nat }, api.ErrForm},
		{"the name", func(d *api.Decl) { d.Name = "1" }, api.ErrName},
		{"the level parameters", func(d *api.Decl) { d.Params = math.MinInt }, api.ErrRange},
		{"the fixed parameters", func(d *api.Decl) { d.Fixed = 1000000 }, api.ErrRange},
		{"the type", func(d *api.Decl) { d.Type = meta(-1) }, api.ErrMeta},
		{"the first name", func(d *api.Decl) { d.Ctors[0].Name = "" }, api.ErrName},
		{"the first type", func(d *api.Decl) { d.Ctors[0].Type = tm(api.App) }, api.ErrForm},
		{"the second name", func(d *api.Decl) { d.Ctors[1].Name = "a b" }, api.ErrName},
		{"the second type", func(d *api.Decl) { d.Ctors[1].Type = x(-7) }, api.ErrScope},
		{"the parameters of the recursor", func(d *api.Decl) { d.Rec.Params = math.MaxInt }, api.ErrRange},
		{"the type of the recursor", func(d *api.Decl) { d.Rec.Type = nested(200, nat) }, api.ErrDeep},
		{"the first rule", func(d *api.Decl) { d.Rec.Rules[0] = con("f", make([]api.Level, 9)...) }, api.ErrMany},
		{"the second rule", func(d *api.Decl) { d.Rec.Rules[1] = con("'") }, api.ErrName},
		{"the whole text", func(d *api.Decl) { d.Rec.Rules = append(d.Rec.Rules, sized(65530)) }, api.ErrLong},
	})
}

// P6.2
func TestFaultsOfFunctions(t *testing.T) {
	tree := func(d *api.Decl) *api.Tree { return &d.Funs[0].Tree }
	wantFirstErrors(t, blockDecl, []fault{
		{"an unused field", func(d *api.Decl) { d.Name = "a" }, api.ErrForm},
		{"the level parameters", func(d *api.Decl) { d.Params = -1 }, api.ErrRange},
		{"the name", func(d *api.Decl) { d.Funs[0].Name = "" }, api.ErrName},
		{"the arity", func(d *api.Decl) { d.Funs[0].Arity = 1000000 }, api.ErrRange},
		{"the type", func(d *api.Decl) { d.Funs[0].Type = tm(api.Sort) }, api.ErrForm},
		{"a split with a body", func(d *api.Decl) { tree(d).Body = nat }, api.ErrForm},
		{"the variable", func(d *api.Decl) { tree(d).Var = -1 }, api.ErrRange},
		{"the first name", func(d *api.Decl) { tree(d).Branches[0].Ctor = "_." }, api.ErrName},
		{"a leaf with a variable", func(d *api.Decl) { tree(d).Branches[0].Tree.Var = 1 }, api.ErrForm},
		{"the body", func(d *api.Decl) { tree(d).Branches[0].Tree.Body = x(1000000) }, api.ErrScope},
		{"an absurd name", func(d *api.Decl) { tree(d).Branches[1].Ctor = "" }, api.ErrName},
		{"an absurd branch with a tree", func(d *api.Decl) { tree(d).Branches[1].Tree = leaf(nat) }, api.ErrForm},
		{"the third name", func(d *api.Decl) { tree(d).Branches[2].Ctor = "é" }, api.ErrName},
		{"an inner variable", func(d *api.Decl) { tree(d).Branches[2].Tree.Var = 1000000 }, api.ErrRange},
		{"an inner kind", func(d *api.Decl) { tree(d).Branches[2].Tree.Branches[0].Tree.Kind = 2 }, api.ErrForm},
		{"another inner kind", func(d *api.Decl) { tree(d).Branches[2].Tree.Branches[1].Tree.Kind = -1 }, api.ErrForm},
		{"the second name", func(d *api.Decl) { d.Funs[1].Name = "a-" }, api.ErrName},
		{"the second arity", func(d *api.Decl) { d.Funs[1].Arity = -3 }, api.ErrRange},
		{"the second type", func(d *api.Decl) { d.Funs[1].Type = meta(1000000) }, api.ErrMeta},
		{"a leaf with a branch", func(d *api.Decl) { d.Funs[1].Tree.Branches = []api.Branch{absurd("c")} }, api.ErrForm},
		{"the whole text", func(d *api.Decl) { d.Funs = append(d.Funs, api.Fun{Name: "h", Type: nat, Tree: leaf(sized(65500))}) }, api.ErrLong},
	})
	for what, tree := range map[string]api.Tree{
		"a split": split(0), "a variable": {Var: 1}, "a kind": {Kind: 9}, "a branch": {Branches: []api.Branch{absurd("c")}}, "a body": leaf(prop),
	} {
		d := api.Decl{Kind: api.DeclFunctions, Funs: []api.Fun{{Name: "f", Type: nat, Tree: split(0, api.Branch{Ctor: "c", Absurd: true, Tree: tree})}}}
		wantPrintDecl(t, "an absurd branch with "+what, d, api.ErrForm)
	}
}

// P6.2: the limit of the whole text, and errors that come behind a text that is too long.
func TestLongDecls(t *testing.T) {
	frame := len("(axiom a 0 )")
	for size, want := range map[int]api.Errno{65536: api.OK, 65537: api.ErrLong, 65538: api.ErrLong} {
		wantPrintDecl(t, fmt.Sprint(size, " bytes"), api.Decl{Name: "a", Type: sized(size - frame)}, want)
	}
	long := natDecl()
	long.Type = sized(65530)
	for range 3 {
		long.Ctors = append(long.Ctors, api.Ctor{Name: "c", Type: sized(65530)})
	}
	wantPrintDecl(t, "a long family", long, api.ErrLong)
	long.Rec.Rules[1] = con("")
	wantPrintDecl(t, "a wrong name behind long terms", long, api.ErrName)
}

// P6.2
func TestDeclSyntaxErrors(t *testing.T) {
	for _, c := range []struct {
		source string
		at     int
	}{
		{"", 0},
		{"axiom", 0},
		{"Nat", 0},
		{"#0", 0},
		{"()", 1},
		{"(lam Nat #0)", 1},
		{"(axioms a 0 Nat)", 1},
		{"(axiom)", 6},
		{"(axiom 0 0 Nat)", 7},
		{"(axiom a. 0 Nat)", 7},
		{"(axiom a Nat)", 9},
		{"(axiom a #0 Nat)", 9},
		{"(axiom a 01 Nat)", 9},
		{"(axiom a 1000000 Nat)", 9},
		{"(axiom a -1 Nat)", 9},
		{"(axiom a 0)", 10},
		{"(axiom a 0 0)", 11},
		{"(axiom a 0 (sort [00]))", 17},
		{"(axiom a 0 Nat Nat)", 15},
		{"(axiom a 0 Nat", 14},
		{"(axiom a 0 Nat) (axiom b 0 Nat)", 16},
		{"(axiom a 0 Nat))", 15},
		{"(def a 0 Nat)", 12},
		{"(def a 0 Nat Nat Nat)", 17},
		{"(theorem a 0 Nat)", 16},
		{"(family F 0 prop (rec 0 #0))", 12},
		{"(family F 0 0 prop)", 18},
		{"(family F 0 0 prop rec 0 #0)", 19},
		{"(family F 0 0 prop (ctor c Nat))", 31},
		{"(family F 0 0 prop (ctor c) (rec 0 #0))", 26},
		{"(family F 0 0 prop (ctor 1 Nat) (rec 0 #0))", 25},
		{"(family F 0 0 prop (rec 0))", 25},
		{"(family F 0 0 prop (rec #0))", 24},
		{"(family F 0 0 prop (rec 0 #0) (ctor c Nat))", 30},
		{"(family F 0 0 prop (rec 0 #0) (rec 0 #0))", 30},
		{"(family F 0 0 prop (rec 0 #0 0))", 29},
		{"(family F 0 0 prop (rec 0 #0)", 29},
		{"(functions)", 10},
		{"(functions f 0)", 11},
		{"(functions 0 f)", 13},
		{"(functions 0 (f))", 14},
		{"(functions 0 (fun f 0 Nat))", 25},
		{"(functions 0 (fun f Nat 0 (leaf #0)))", 20},
		{"(functions 0 (fun f 0 Nat #0))", 26},
		{"(functions 0 (fun f 0 Nat (tree #0)))", 27},
		{"(functions 0 (fun f 0 Nat (leaf)))", 31},
		{"(functions 0 (fun f 0 Nat (leaf #0 #0)))", 35},
		{"(functions 0 (fun f 0 Nat (split)))", 32},
		{"(functions 0 (fun f 0 Nat (split #0)))", 33},
		{"(functions 0 (fun f 0 Nat (split 0 c)))", 35},
		{"(functions 0 (fun f 0 Nat (split 0 (leaf #0))))", 36},
		{"(functions 0 (fun f 0 Nat (split 0 (branch c))))", 44},
		{"(functions 0 (fun f 0 Nat (split 0 (branch c #0))))", 45},
		{"(functions 0 (fun f 0 Nat (split 0 (branch c (leaf #0) (leaf #0)))))", 55},
		{"(functions 0 (fun f 0 Nat (split 0 (branch 0 (leaf #0)))))", 43},
		{"(functions 0 (fun f 0 Nat (split 0 (absurd c (leaf #0)))))", 45},
		{"(functions 0 (fun f 0 Nat (split 0 (absurd))))", 42},
		{"(functions 0 (fun f 0 Nat (leaf #0)) (fun g))", 43},
	} {
		wantDeclRefused(t, c.source, c.at)
	}
	wantDeclRefused(t, strings.Repeat("(", 65536), 1)
	wantRefused(t, "(leaf #0)", 1)
}

// P6.2
func TestParseDeclErrors(t *testing.T) {
	levels := "(const f" + strings.Repeat(" [0]", 9) + ")"
	deep := strings.Repeat("(fst ", 200) + "f" + strings.Repeat(")", 200)
	printed, _ := text.Print(sized(65528))
	for _, c := range []struct {
		source string
		err    api.Errno
	}{
		{strings.Repeat(" ", 65537), api.ErrLong},
		{"(axiom a 0 " + levels + ")", api.ErrMany},
		{"(def a 0 " + deep + " " + levels + ")", api.ErrDeep},
		{"(def a 0 " + levels + " " + deep + ")", api.ErrMany},
		{"(functions 0 (fun f 0 Nat (split 0 (branch c (leaf " + deep + ")))))", api.ErrDeep},
		{"(axiom a 0" + strings.ReplaceAll(printed, "(app (", "(app(") + ")", api.ErrLong},
	} {
		wantDecl(t, c.source, api.Decl{}, 0, c.err)
	}
	wantDeclRefused(t, "(def a 0 "+deep+")", len(deep)+9)
}

// P1: the functions return for all arguments.
func TestOddDecls(t *testing.T) {
	tree := leaf(x(0))
	for range 1 << 20 {
		tree = split(0, branch("c", tree))
	}
	d := api.Decl{Kind: api.DeclFunctions, Funs: []api.Fun{{Name: "f", Type: nat, Tree: tree}}}
	wantPrintDecl(t, "a deep tree", d, api.ErrLong)
	d.Funs = append(d.Funs, api.Fun{})
	wantPrintDecl(t, "a wrong name behind a deep tree", d, api.ErrName)
	d.Funs = append(d.Funs[:0], api.Fun{Name: "f", Type: nat, Tree: split(0, api.Branch{Ctor: "c", Absurd: true, Tree: tree})})
	wantPrintDecl(t, "a deep tree of an absurd branch", d, api.ErrForm)
}
