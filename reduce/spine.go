package reduce

import (
	"slices"

	"euclid/api"
	"euclid/spines"
)

// spine is a term as its head and its arguments.
type spine struct {
	head api.Term
	args []api.Term
}

func spineOf(t api.Term) spine {
	head, args := spines.Of(t)
	return spine{head, args}
}

func (s spine) term() api.Term { return spines.Apply(s.head, s.args...) }

// with returns the spine with another argument in the place of one.
func (s spine) with(at int, arg api.Term) spine {
	s.args = slices.Clone(s.args)
	s.args[at] = arg
	return s
}
