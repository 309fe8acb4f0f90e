package binder_test

import (
	"testing"

	"euclid/api"
	"euclid/binder"
	"euclid/sample"
	"euclid/subst"
	"euclid/term"
)

func TestBelow(t *testing.T) {
	for kind := -1; kind <= api.Kinds; kind++ {
		for kid := range 4 {
			want := kid == 1 && (kind == api.Lam || kind == api.Pi || kind == api.Sigma) || kid == 2 && kind == api.Let
			if binder.Below(kind, kid) != want {
				t.Errorf("Below(%d, %d) is not %v", kind, kid, want)
			}
		}
	}
}

func TestShift(t *testing.T) {
	for _, source := range []string{"#0", "#7", "(lam #0 {#0 #1})", "(pi #0 (sigma #1 {#0 #1 #2}))", "(let #0 #1 {#0 #1})", "(pair #0 (fst #1) (snd #2))", "(lam Nat #0)", "?3"} {
		for _, by := range []int{0, 1, 5} {
			got := sample.Parse(source)
			want, _ := subst.Shift(got, by, 0)
			binder.Shift(&got, by)
			if !term.Same(got, want) {
				t.Errorf("Shift(%s, %d): got %s, want %s", source, by, sample.Show(got), sample.Show(want))
			}
			binder.Shift(&got, -by)
			if !term.Same(got, sample.Parse(source)) {
				t.Errorf("%s, shifted by %d and back, is %s", source, by, sample.Show(got))
			}
		}
	}
	deep := sample.Var(65535)
	for range 50000 {
		deep = sample.Node(api.Lam, sample.Var(0), deep)
	}
	binder.Shift(&deep, 1)
	inner := deep
	for inner.Kind == api.Lam {
		inner = inner.Kids[1]
	}
	if inner.Index != 65536 || deep.Kids[0].Index != 1 || deep.Kids[1].Kids[0].Index != 0 {
		t.Errorf("a deep term: the variables are %d, %d and %d", inner.Index, deep.Kids[0].Index, deep.Kids[1].Kids[0].Index)
	}
}
