package signature_test

import (
	"fmt"
	"math"
	"slices"
	"strings"
	"testing"

	"euclid/api"
	"euclid/signature"
	"euclid/term"
	"euclid/text"
)

// tm builds a term of a kind that has only kids.
func tm(kind int, kids ...api.Term) api.Term { return api.Term{Kind: kind, Kids: kids} }

func x(index int) api.Term { return api.Term{Kind: api.Var, Index: index} }

func con(name string, levels ...api.Level) api.Term {
	return api.Term{Kind: api.Const, Name: name, Levels: levels}
}

func lv(constant int, vars ...api.LevelVar) api.Level {
	return api.Level{Const: constant, Vars: vars}
}

func u(index, plus int) api.Level { return lv(0, api.LevelVar{Index: index, Plus: plus}) }

func leaf(t api.Term) api.Tree { return api.Tree{Kind: api.TreeLeaf, Body: t} }

func split(variable int, branches ...api.Branch) api.Tree {
	return api.Tree{Kind: api.TreeSplit, Var: variable, Branches: branches}
}

func branch(ctor string, t api.Tree) api.Branch { return api.Branch{Ctor: ctor, Tree: t} }

func absurd(ctor string) api.Branch { return api.Branch{Ctor: ctor, Absurd: true} }

// repeated returns a list of so many equal elements.
func repeated[T any](n int, element T) []T {
	list := make([]T, n)
	for i := range list {
		list[i] = element
	}
	return list
}

func show(v any) string { return fmt.Sprintf("%.400s", fmt.Sprint(v)) }

// the reads a term from its text.
func the(s string) api.Term {
	t, at, err := text.Parse(s)
	if err != api.OK {
		panic(fmt.Sprintf("%s: error %d at %d", s, err, at))
	}
	return t
}

// decls reads declarations from their texts.
func decls(texts ...string) []api.Decl {
	var env []api.Decl
	for _, s := range texts {
		d, at, err := text.ParseDecl(s)
		if err != api.OK {
			panic(fmt.Sprintf("%s: error %d at %d", s, err, at))
		}
		env = append(env, d)
	}
	return env
}

const (
	natText = `(family Nat 0 0 (sort [0]) (ctor Nat.zero Nat) (ctor Nat.succ (pi Nat Nat))
		(rec 1 (pi (pi Nat (sort [u0])) (pi (app #0 Nat.zero) (pi (pi Nat (pi (app #2 #0) (app #3 (app Nat.succ #1)))) (pi Nat (app #3 #0)))))
			(lam (pi Nat (sort [u0])) (lam (app #0 Nat.zero) (lam (pi Nat (pi (app #2 #0) (app #3 (app Nat.succ #1)))) #1)))
			(lam (pi Nat (sort [u0])) (lam (app #0 Nat.zero) (lam (pi Nat (pi (app #2 #0) (app #3 (app Nat.succ #1)))) (lam Nat
				(app (app #1 #0) (app (app (app (app (const Nat.rec [u0]) #3) #2) #1) #0))))))))`
	// Of the recursor of Vec only the structure is right.
	vecText = `(family Vec 2 1 (pi (sort [u0]) (pi Nat (sort [u0])))
		(ctor Vec.nil (pi (sort [u0]) (app (app (const Vec [u0] [u1]) #0) Nat.zero)))
		(ctor Vec.cons (pi (sort [u0]) (pi Nat (pi #1 (pi (app (app (const Vec [u0] [u1]) #2) #1) (app (app (const Vec [u0] [u1]) #3) (app Nat.succ #2)))))))
		(rec 3 (pi (const Vec [u0] [u1]) (const Vec.nil [u0] [u2]))
			(lam (const Vec [u0] [0]) (const Vec.rec [u0] [u1] [u2]))
			(lam (const Vec.cons [u0] [u2]) (const Vec.rec [0] [1] [u2 + 1]))))`
	plusText = `(functions 0
		(fun plus 2 (pi Nat (pi Nat Nat)) (split 0 (branch Nat.zero (leaf #0)) (branch Nat.succ (leaf (app Nat.succ (app (app plus #0) #1))))))
		(fun double 1 (pi Nat Nat) (leaf (app (app plus #0) #0))))`
)

// library is an environment that is in order.
func library() []api.Decl {
	return decls(natText, vecText,
		"(axiom choice 3 (pi (sort [max(u0, u1)]) (sort [u2 + 5])))",
		"(def id 1 (pi (sort [u0]) (pi #0 #1)) (lam (sort [u0]) (lam #0 #0)))",
		"(theorem thm 0 Nat Nat.zero)",
		plusText,
		`(functions 1 (fun head 3 (pi (sort [u0]) (pi Nat (pi (app (app (const Vec [u0] [0]) #1) (app Nat.succ #0)) #2)))
			(split 2 (absurd Vec.nil) (branch Vec.cons (leaf (app (app (const id [u0]) #5) #1))))))`,
		"(axiom empty 0 (const id [0]))",
	)
}

func wantCheck(t *testing.T, what string, env []api.Decl, at int, err api.Errno) {
	t.Helper()
	gotAt, got := signature.Check(env)
	if gotAt != at || got != err {
		t.Errorf("Check, %s: got error %d at %d, want error %d at %d", what, got, gotAt, err, at)
	}
}

func wantNames(t *testing.T, what string, got []string, want ...string) {
	t.Helper()
	if !slices.Equal(got, want) {
		t.Errorf("%s: got %q, want %q", what, got, want)
	}
}

// P7.1
func TestNames(t *testing.T) {
	env := library()
	for i, want := range [][]string{{"Nat", "Nat.zero", "Nat.succ", "Nat.rec"}, {"Vec", "Vec.nil", "Vec.cons", "Vec.rec"}, {"choice"}, {"id"}, {"thm"}, {"plus", "double"}, {"head"}, {"empty"}} {
		wantNames(t, "Names", signature.Names(env[i]), want...)
	}
	for _, kind := range []int{-1, 5, 6, math.MinInt, math.MaxInt} {
		d := env[0]
		d.Kind = kind
		wantNames(t, "Names of an unknown kind", signature.Names(d))
	}
	wantNames(t, "Names of nothing", signature.Names(api.Decl{Kind: api.DeclFunctions}))
	wantNames(t, "Names of a zero declaration", signature.Names(api.Decl{}), "")
	wantNames(t, "Names of odd names", signature.Names(api.Decl{Kind: api.DeclFamily, Name: "1.", Ctors: []api.Ctor{{Name: "a"}, {Name: "a"}, {}}}), "1.", "a", "a", "", "1..rec")
	// Fields that a kind does not use declare nothing.
	wantNames(t, "Names of an axiom with all fields", signature.Names(api.Decl{Name: "a", Ctors: []api.Ctor{{Name: "b"}}, Funs: []api.Fun{{Name: "c"}}}), "a")
}

// P7.1
func TestUses(t *testing.T) {
	env := library()
	for i, want := range [][]string{nil, {"Nat", "Nat.zero", "Nat.succ"}, nil, nil, {"Nat", "Nat.zero"}, {"Nat", "Nat.zero", "Nat.succ"}, {"Nat", "Vec", "Nat.succ", "Vec.nil", "Vec.cons", "id"}, {"id"}} {
		wantNames(t, fmt.Sprintf("Uses of declaration %d", i), signature.Uses(env[i]), want...)
	}
	all := api.Decl{Kind: api.DeclDef, Name: "a", Type: the("(app b (app a c))"), Value: the("(app c d)"),
		Ctors: []api.Ctor{{Name: "e", Type: con("e")}, {Type: con("f")}},
		Rec:   api.Recursor{Type: con("g"), Rules: []api.Term{con("h"), the("(app b i)")}},
		Funs: []api.Fun{
			{Type: con("j"), Tree: leaf(con("l"))},
			{Type: con("k"), Tree: split(0, branch("m", leaf(con("n"))), absurd("o"), branch("p", split(0, branch("q", leaf(con("r"))))), branch("s", leaf(con("m"))))},
		}}
	wantNames(t, "Uses of all fields", signature.Uses(all), strings.Split("b c d e f g h i j k l m n o p q r s", " ")...)
	for _, kind := range []int{-1, 5} {
		all.Kind = kind
		wantNames(t, "Uses of an unknown kind", signature.Uses(all), strings.Split("b a c d e f g h i j k l m n o p q r s", " ")...)
	}
	all.Kind = api.DeclFamily
	wantNames(t, "Uses of a family", signature.Uses(all), strings.Split("b c d f g h i j k l m n o p q r s", " ")...)
	all.Kind = api.DeclFunctions
	all.Funs[0].Name, all.Funs[1].Name = "n", "b"
	wantNames(t, "Uses of a block", signature.Uses(all), strings.Split("a c d e f g h i j k l m o p q r s", " ")...)
	own := api.Decl{Kind: api.DeclFamily, Name: "T", Type: the("(app T.rec (app c d))"), Ctors: []api.Ctor{{Name: "c"}}}
	wantNames(t, "Uses of the own names", signature.Uses(own), "d")
}

// P7.1: case trees that are not in order.
func TestUsesOfOddTrees(t *testing.T) {
	branches := []api.Branch{branch("a", leaf(con("b"))), {Ctor: "c", Absurd: true, Tree: leaf(con("d"))}}
	for _, c := range []struct {
		tree api.Tree
		want []string
	}{
		{api.Tree{Kind: api.TreeLeaf, Body: con("f"), Var: 7, Branches: branches}, []string{"f"}},
		{api.Tree{Kind: api.TreeSplit, Body: con("f"), Var: 7, Branches: branches}, []string{"a", "b", "c"}},
		{api.Tree{Kind: 2, Body: con("f"), Branches: branches}, []string{"a", "b", "c"}},
		{api.Tree{Kind: -1, Body: con("f")}, nil},
		{split(0, branch("", leaf(con("")))), []string{""}},
	} {
		d := api.Decl{Kind: api.DeclFunctions, Funs: []api.Fun{{Name: "g", Tree: c.tree}}}
		wantNames(t, show(c.tree), signature.Uses(d), c.want...)
	}
	deep, nested := con("z"), leaf(con("y"))
	for range 1 << 20 {
		deep, nested = tm(api.Fst, deep), split(0, branch("c", nested))
	}
	d := api.Decl{Kind: api.DeclFunctions, Funs: []api.Fun{{Name: "f", Type: deep, Tree: nested}}}
	wantNames(t, "a deep tree", signature.Uses(d), "z", "c", "y")
}

// P7.2
func TestFind(t *testing.T) {
	env := library()
	for name, want := range map[string]api.Entry{
		"Nat":      {Kind: api.EntryFamily, Type: env[0].Type},
		"Nat.zero": {Kind: api.EntryCtor, Type: con("Nat")},
		"Nat.succ": {Kind: api.EntryCtor, Item: 1, Type: the("(pi Nat Nat)")},
		"Nat.rec":  {Kind: api.EntryRec, Params: 1, Type: env[0].Rec.Type},
		"Vec":      {Kind: api.EntryFamily, Decl: 1, Params: 2, Type: env[1].Type},
		"Vec.nil":  {Kind: api.EntryCtor, Decl: 1, Params: 2, Type: env[1].Ctors[0].Type},
		"Vec.cons": {Kind: api.EntryCtor, Decl: 1, Item: 1, Params: 2, Type: env[1].Ctors[1].Type},
		"Vec.rec":  {Kind: api.EntryRec, Decl: 1, Params: 3, Type: env[1].Rec.Type},
		"choice":   {Kind: api.EntryAxiom, Decl: 2, Params: 3, Type: env[2].Type},
		"id":       {Kind: api.EntryDef, Decl: 3, Params: 1, Type: env[3].Type},
		"thm":      {Kind: api.EntryTheorem, Decl: 4, Type: con("Nat")},
		"plus":     {Kind: api.EntryFun, Decl: 5, Type: the("(pi Nat (pi Nat Nat))")},
		"double":   {Kind: api.EntryFun, Decl: 5, Item: 1, Type: the("(pi Nat Nat)")},
		"head":     {Kind: api.EntryFun, Decl: 6, Params: 1, Type: env[6].Funs[0].Type},
	} {
		wantFind(t, env, name, want, api.OK)
	}
	for _, name := range []string{"", "nat", "Nat.", "Nat.rec.rec", "rec", ".rec", "choice.rec", "plus.rec", "id "} {
		wantFind(t, env, name, api.Entry{}, api.ErrNone)
	}
	wantFind(t, nil, "Nat", api.Entry{}, api.ErrNone)
}

func wantFind(t *testing.T, env []api.Decl, name string, want api.Entry, err api.Errno) {
	t.Helper()
	got, gotErr := signature.Find(env, name)
	same := term.Same(got.Type, want.Type) && got.Kind == want.Kind && got.Decl == want.Decl && got.Item == want.Item && got.Params == want.Params
	if gotErr != err || !same {
		t.Errorf("Find(%q): got %s, error %d, want %s, error %d", name, show(got), gotErr, show(want), err)
	}
}

// P7.2: Find has results for environments that are not in order, too.
func TestFindFirst(t *testing.T) {
	odd := tm(77, con(""), x(-1))
	big := odd
	for range 5000 {
		big = tm(api.Lam, big, x(1))
	}
	env := []api.Decl{
		{Kind: 9, Name: "a", Type: odd},
		{Kind: api.DeclFunctions, Name: "a", Params: -4, Funs: []api.Fun{{Name: "f", Type: odd}, {Name: "g"}, {Name: "f"}}},
		{Kind: api.DeclFamily, Name: "a", Params: 99, Type: big, Ctors: []api.Ctor{{Name: "f"}, {Name: "c"}, {Name: "a.rec", Type: x(5)}, {Name: "c"}}, Rec: api.Recursor{Params: 7, Type: x(6)}},
		{Kind: api.DeclAxiom, Name: "a"},
		{Kind: api.DeclTheorem, Name: "", Value: odd},
	}
	wantFind(t, env, "a", api.Entry{Kind: api.EntryFamily, Decl: 2, Params: 99, Type: big}, api.OK)
	wantFind(t, env, "f", api.Entry{Kind: api.EntryFun, Decl: 1, Params: -4, Type: odd}, api.OK)
	wantFind(t, env, "g", api.Entry{Kind: api.EntryFun, Decl: 1, Item: 1, Params: -4}, api.OK)
	wantFind(t, env, "c", api.Entry{Kind: api.EntryCtor, Decl: 2, Item: 1, Params: 99}, api.OK)
	wantFind(t, env, "a.rec", api.Entry{Kind: api.EntryCtor, Decl: 2, Item: 2, Params: 99, Type: x(5)}, api.OK)
	wantFind(t, env, "", api.Entry{Kind: api.EntryTheorem, Decl: 4}, api.OK)
	wantFind(t, env[3:], "a", api.Entry{Kind: api.EntryAxiom}, api.OK)
	wantFind(t, slices.Concat(repeated(2000, env[3]), env), "c", api.Entry{Kind: api.EntryCtor, Decl: 2002, Item: 1, Params: 99}, api.OK)
}

// P7.2
func TestType(t *testing.T) {
	env := library()
	for _, c := range []struct {
		name   string
		levels []api.Level
		want   api.Term
		err    api.Errno
	}{
		{"Nat.succ", nil, the("(pi Nat Nat)"), api.OK},
		{"choice", []api.Level{u(3, 0), lv(2), u(-1, 1)}, the("(pi (sort [max(2, u3)]) (sort [?0 + 6]))"), api.OK},
		{"Vec.nil", []api.Level{lv(3), u(1, 2)}, the("(pi (sort [3]) (app (app (const Vec [3] [u1 + 2]) #0) Nat.zero))"), api.OK},
		{"Vec.rec", []api.Level{lv(3), u(1, 2), u(7, 0)}, the("(pi (const Vec [3] [u1 + 2]) (const Vec.nil [3] [u7]))"), api.OK},
		{"head", []api.Level{lv(1)}, the("(pi (sort [1]) (pi Nat (pi (app (app (const Vec [1] [0]) #1) (app Nat.succ #0)) #2)))"), api.OK},
		{"thm", nil, con("Nat"), api.OK},
		{"none", nil, api.Term{}, api.ErrNone},
		{"none", []api.Level{lv(-1)}, api.Term{}, api.ErrNone},
		{"Nat", []api.Level{lv(0)}, api.Term{}, api.ErrLevel},
		{"choice", []api.Level{lv(0), lv(0)}, api.Term{}, api.ErrLevel},
		{"choice", repeated(4, lv(0)), api.Term{}, api.ErrLevel},
		{"choice", repeated(2, lv(-1)), api.Term{}, api.ErrLevel},
		{"Vec.rec", []api.Level{lv(0), lv(0)}, api.Term{}, api.ErrLevel},
		{"choice", []api.Level{lv(0), lv(0), lv(96)}, api.Term{}, api.ErrLevel},
		{"choice", []api.Level{lv(0), lv(0), lv(95)}, the("(pi (sort [0]) (sort [100]))"), api.OK},
		{"choice", []api.Level{lv(0), lv(0), lv(-1)}, api.Term{}, api.ErrForm},
	} {
		got, err := signature.Type(env, c.name, c.levels)
		if err != c.err || !term.Same(got, c.want) {
			t.Errorf("Type(%s, %v): got %s, error %d, want %s, error %d", c.name, c.levels, show(got), err, show(c.want), c.err)
		}
	}
}

// P7.2
func TestValue(t *testing.T) {
	env := append(library(), decls("(def big 2 prop (sort [max(u0 + 60, u1)]))")...)
	for _, c := range []struct {
		name   string
		levels []api.Level
		want   api.Term
		ok     bool
	}{
		{"id", []api.Level{u(-3, 4)}, the("(lam (sort [?2 + 4]) (lam #0 #0))"), true},
		{"big", []api.Level{lv(40), u(2, 3)}, the("(sort [max(100, u2 + 3)])"), true},
		{"big", []api.Level{lv(41), u(2, 3)}, api.Term{}, false},
		{"big", []api.Level{lv(-1), u(2, 3)}, api.Term{}, false},
		{"id", nil, api.Term{}, false},
		{"id", []api.Level{lv(0), lv(0)}, api.Term{}, false},
		{"none", nil, api.Term{}, false},
		{"thm", nil, api.Term{}, false},
		{"empty", nil, api.Term{}, false},
		{"Nat", nil, api.Term{}, false},
		{"Nat.zero", nil, api.Term{}, false},
		{"Nat.rec", []api.Level{lv(0)}, api.Term{}, false},
		{"plus", nil, api.Term{}, false},
	} {
		got, ok := signature.Value(env, c.name, c.levels)
		if ok != c.ok || !term.Same(got, c.want) {
			t.Errorf("Value(%s, %v): got %s, %v, want %s, %v", c.name, c.levels, show(got), ok, show(c.want), c.ok)
		}
	}
}

// P7.2
func TestFamily(t *testing.T) {
	env := library()
	for _, c := range []struct {
		name       string
		decl, item int
	}{
		{"Nat", 0, -1}, {"Nat.zero", 0, 0}, {"Nat.succ", 0, 1}, {"Nat.rec", 0, -2},
		{"Vec", 1, -1}, {"Vec.nil", 1, 0}, {"Vec.cons", 1, 1}, {"Vec.rec", 1, -2},
	} {
		d, item, ok := signature.Family(env, c.name)
		if !ok || item != c.item || show(d) != show(env[c.decl]) {
			t.Errorf("Family(%s): got %s, %d, %v", c.name, show(d), item, ok)
		}
	}
	for _, name := range []string{"choice", "id", "thm", "plus", "head", "none", "", "Nat.rec.rec"} {
		d, item, ok := signature.Family(env, name)
		if ok || item != 0 || show(d) != show(api.Decl{}) {
			t.Errorf("Family(%s): got %s, %d, %v", name, show(d), item, ok)
		}
	}
}
