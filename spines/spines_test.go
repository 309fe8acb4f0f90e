package spines_test

import (
	"testing"

	"euclid/api"
	"euclid/sample"
	"euclid/spines"
	"euclid/telescope"
	"euclid/term"
)

func TestSpines(t *testing.T) {
	for _, source := range []string{"#0", "{#0 #1}", "{plus 2 (lam Nat {#0 #1})}", "{(lam Nat #0) #1 #2}", "prop"} {
		from := sample.Parse(source)
		head, args := spines.Of(from)
		wantHead, wantArgs := telescope.Spine(from)
		if !term.Same(head, wantHead) || len(args) != len(wantArgs) || !term.Same(spines.Apply(head, args...), from) {
			t.Errorf("%s has the head %s and %d arguments", source, sample.Show(head), len(args))
		}
	}
	long := sample.Var(0)
	for range 5000 {
		long = spines.Apply(long, sample.Node(api.Prop))
	}
	if head, args := spines.Of(long); head.Kind != api.Var || len(args) != 5000 {
		t.Errorf("a long application has %d arguments", len(args))
	}
}
