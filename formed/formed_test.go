package formed_test

import (
	"math/rand/v2"
	"testing"

	"euclid/api"
	"euclid/formed"
	"euclid/sample"
	"euclid/subst"
	"euclid/term"
)

var tm, x = sample.Node, sample.Var

func TestFits(t *testing.T) {
	deep, great := x(0), x(0)
	for term.Depth(deep) < api.MaxDepth {
		deep = tm(api.Fst, deep)
	}
	for range 11 {
		great = tm(api.App, great, great)
	}
	most := tm(api.Fst, great) // MaxNodes nodes
	for i, c := range []struct {
		t    api.Term
		want bool
	}{{x(0), true}, {deep, true}, {tm(api.Fst, deep), false}, {tm(api.App, x(0), deep), false}, {most, true}, {great, true}, {tm(api.Fst, most), false}, {tm(api.App, great, great), false}} {
		if got := formed.Fits(c.t); got != c.want {
			t.Errorf("Fits of term %d: got %v", i, got)
		}
	}
	endless := x(0)
	for range 100 {
		endless = tm(api.App, endless, endless)
	}
	if formed.Fits(endless) {
		t.Error("a term that is too great to be visited fits")
	}
}

// Subst is subst.Subst, where that has no error.
func TestSubst(t *testing.T) {
	m := sample.Maker{IntN: rand.New(rand.NewPCG(11, 1)).IntN}
	for range 2000 {
		from := m.Term(4)
		var values []api.Term
		for range m.IntN(4) {
			values = append(values, m.Term(2))
		}
		want, wantErr := subst.Subst(from, values)
		if got, err := formed.Subst(from, values); err != wantErr || !term.Same(got, want) {
			t.Fatalf("Subst(%s): got %s, error %d, want %s, error %d", sample.Show(from), sample.Show(got), err, sample.Show(want), wantErr)
		}
	}
}

// Subst has a result also where the Index of a variable becomes greater than 65535.
func TestGreatVariables(t *testing.T) {
	last := 65535
	pair := func(first, second int) api.Term { return tm(api.Sigma, x(first), x(second)) }
	// The values are put in at the top and below two binders; the last variable is below three.
	from := tm(api.Pi, x(0), tm(api.Lam, x(last), tm(api.Let, x(2), x(3), x(last+6))))
	values := []api.Term{pair(last, last+1), x(7)}
	want := tm(api.Pi, pair(last, last+1), tm(api.Lam, x(last-2), tm(api.Let, pair(last+2, last+3), x(9), x(last+4))))
	if got, err := formed.Subst(from, values); err != api.OK || !term.Same(got, want) {
		t.Errorf("Subst: got %s, error %d, want %s", sample.Show(got), err, sample.Show(want))
	}
	if _, err := subst.Subst(from, values); err != api.ErrScope {
		t.Errorf("subst.Subst: error %d", err)
	}
	deep := x(0)
	for term.Depth(deep) < api.MaxDepth-1 {
		deep = tm(api.Fst, deep)
	}
	for more, want := range map[int]api.Errno{0: api.OK, 1: api.ErrDeep} {
		body := tm(api.Lam, x(last), x(1))
		for range more {
			body = tm(api.Fst, body)
		}
		if got, err := formed.Subst(body, []api.Term{deep}); err != want || err != api.OK && !term.Same(got, api.Term{}) {
			t.Errorf("Subst of a deep term: got error %d, want %d", err, want)
		}
	}
}
