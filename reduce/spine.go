package reduce

import (
	"slices"

	"euclid/api"
	"euclid/spines"
)

// spine is a term as its head and its arguments.
type spine struct {
	head api.Term
	args []api.Term
}

func spineOf(t api.Term) spine {
	head, args := spines.Of(t)
	return spine{head, args}
}

func (s spine) term() api.Term { return spines.Apply(s.head, s.args...) }

// with returns the spine with another argument in the place of one.
func (s spine) with(at int, arg api.Term) spine {
	s.args = slices.Clone(s.args)
	s.args[at] = arg
	return s
}

// fits reports whether a term is neither too long nor too deep.
func fits(t api.Term) bool { return new(measure).fits(&t, 1) }

// measure counts the nodes of a term. It stops at the first one that is too many or too deep.
type measure struct{ nodes int }

func (m *measure) fits(t *api.Term, depth int) bool {
	m.nodes++
	if m.nodes > api.MaxNodes || depth > api.MaxDepth {
		return false
	}
	for i := range t.Kids {
		if !m.fits(&t.Kids[i], depth+1) {
			return false
		}
	}
	return true
}
