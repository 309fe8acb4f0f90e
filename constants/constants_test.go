package constants_test

import (
	"testing"

	"euclid/api"
	"euclid/constants"
	"euclid/sample"
)

func TestTable(t *testing.T) {
	env := sample.Env()
	table := constants.New(env)
	one := []api.Level{{}}
	for _, c := range []struct {
		name                     string
		declared, none, oneLevel bool
		domains                  int
	}{{"Nat", true, true, false, 0}, {"Vec", true, false, true, 2}, {"Nat.succ", true, true, false, 1}, {"Vec.cons", true, false, true, 4}, {"Nat.rec", true, false, true, 0}, {"plus", true, true, false, 0}, {"head", true, false, true, 0}, {"missing", false, false, false, 0}} {
		for range 2 {
			got := table.Find(c.name)
			if got.Declared != c.declared || got.Usable(nil) != c.none || got.Usable(one) != c.oneLevel || got.Domains != c.domains {
				t.Errorf("Find(%s): got %v", c.name, got)
			}
		}
	}
	if ahead, at := table.Scrutinee(table.Find("Nat.rec")); ahead != 3 || at != 3 {
		t.Errorf("the scrutinee of Nat.rec is %d, behind %d arguments", at, ahead)
	}
	if ahead, at := table.Scrutinee(table.Find("Vec.rec")); ahead != 4 || at != 5 {
		t.Errorf("the scrutinee of Vec.rec is %d, behind %d arguments", at, ahead)
	}
	if f, ok := table.Function(sample.Const("odd")); !ok || f.Name != "odd" {
		t.Error("odd is no function")
	}
	for _, other := range []api.Term{sample.Const("head"), sample.Const("odd", one...), sample.Const("two"), sample.Const("missing"), sample.Var(0)} {
		if _, ok := table.Function(other); ok {
			t.Errorf("%s is a function", sample.Show(other))
		}
	}
}

func TestConstructor(t *testing.T) {
	table := constants.New(sample.Env())
	if c, fields, ok := table.Constructor(sample.Const("Vec.cons"), 4); !ok || c.Item != 1 || fields != 1 {
		t.Errorf("Vec.cons with four arguments: got %v, %d, %v", c, fields, ok)
	}
	for args := range 6 {
		for _, name := range []string{"Vec.cons", "Nat.zero", "Vec", "plus", "missing"} {
			want := name == "Vec.cons" && args == 4 || name == "Nat.zero" && args == 0
			if _, _, ok := table.Constructor(sample.Const(name), args); ok != want {
				t.Errorf("%s with %d arguments is not %v", name, args, want)
			}
		}
	}
	if _, _, ok := table.Constructor(sample.Var(0), 0); ok {
		t.Error("a variable is a constructor term")
	}
}

func TestBranch(t *testing.T) {
	split := api.Tree{Kind: api.TreeSplit, Branches: []api.Branch{{Ctor: "a", Tree: api.Tree{Body: sample.Var(1)}}, {Ctor: "b", Absurd: true}, {Ctor: "a"}, {Ctor: "b"}}}
	if b, ok := constants.Branch(&split, "a"); !ok || b.Tree.Body.Index != 1 {
		t.Error("the branch of a is not the first one")
	}
	for _, ctor := range []string{"b", "c", ""} {
		if _, ok := constants.Branch(&split, ctor); ok {
			t.Errorf("there is a branch of %s", ctor)
		}
	}
}
