package reduce

import (
	"slices"

	"euclid/api"
)

// spine is a term as its head and its arguments. (Unlike telescope, it does not copy them, as only the last term of a reduction is a result.)
type spine struct {
	head api.Term
	args []api.Term
}

func spineOf(t api.Term) spine {
	var args []api.Term
	for t.Kind == api.App {
		args = append(args, t.Kids[1])
		t = t.Kids[0]
	}
	slices.Reverse(args)
	return spine{t, args}
}

func (s spine) term() api.Term { return applied(s.head, s.args) }

// with returns the spine with another argument in the place of one.
func (s spine) with(at int, arg api.Term) spine {
	s.args = slices.Clone(s.args)
	s.args[at] = arg
	return s
}

func applied(f api.Term, args []api.Term) api.Term {
	for _, arg := range args {
		f = api.Term{Kind: api.App, Kids: []api.Term{f, arg}}
	}
	return f
}

// fits reports whether a term is neither too long nor too deep.
func fits(t api.Term) bool { return new(measure).fits(&t, 1) }

// measure counts the nodes of a term. It stops at the first one that is too many or too deep.
type measure struct{ nodes int }

func (m *measure) fits(t *api.Term, depth int) bool {
	m.nodes++
	if m.nodes > api.MaxNodes || depth > api.MaxDepth {
		return false
	}
	for i := range t.Kids {
		if !m.fits(&t.Kids[i], depth+1) {
			return false
		}
	}
	return true
}
