package conv

import (
	"euclid/api"
	"euclid/binder"
	"euclid/nbe"
	"euclid/reduce"
)

// maxNodes limits the nodes of an expansion, and of the terms that are compared. Normal forms of light reductions have half as many.
const maxNodes = 2 * api.MaxNodes * api.MaxLight

// short returns the short normal form of a term.
func (c *comparison) short(t api.Term) api.Term {
	result := c.norm(t)
	c.expand(&result)
	return nbe.Short(result)
}

func (c *comparison) norm(t api.Term) api.Term {
	norm, err := nbe.Norm(c.env, t)
	if err != api.OK {
		giveUp()
	}
	return norm
}

// expand replaces a normal form by its expansion, but for the types of functions and pairs, which are not in the short form.
func (c *comparison) expand(t *api.Term) {
	// No recursion: a normal form may be deep.
	places := []*api.Term{t}
	nodes, contractions := 0, 0
	for len(places) > 0 {
		at := places[len(places)-1]
		places = places[:len(places)-1]
		s := spineOf(*at)
		if c.isPartial(s) {
			body, contracted := c.applied(*at)
			if contracted {
				contractions++
			}
			*at = api.Term{Kind: api.Lam, Kids: []api.Term{{Kind: api.Prop}, body}}
			places = append(places, &at.Kids[1])
		} else {
			places = appendParts(places, at)
		}
		nodes += 1 + len(s.args)
		if nodes > maxNodes || contractions > api.MaxLight {
			giveUp()
		}
	}
}

// applied returns the normal form of a normal form, which it changes, shifted and applied to variable 0, and whether that is contracted.
func (c *comparison) applied(t api.Term) (api.Term, bool) {
	binder.Shift(&t, 1)
	applied := api.Term{Kind: api.App, Kids: []api.Term{t, {Kind: api.Var}}}
	if _, contracted, err := reduce.Step(c.env, applied); !contracted && err == api.OK {
		return applied, false
	}
	return c.norm(applied), true
}

// isGreat reports whether a term has too many nodes to be compared, as a part that is shared may stand in more places than memory can hold.
func isGreat(t api.Term) bool {
	nodes := []*api.Term{&t}
	for count := 0; len(nodes) > 0; count++ {
		if count == maxNodes {
			return true
		}
		node := nodes[len(nodes)-1]
		nodes = nodes[:len(nodes)-1]
		for i := range node.Kids {
			nodes = append(nodes, &node.Kids[i])
		}
	}
	return false
}

// appendParts appends the parts of a term, but for the types of functions and pairs.
func appendParts(places []*api.Term, t *api.Term) []*api.Term {
	for ; t.Kind == api.App; t = &t.Kids[0] {
		places = append(places, &t.Kids[1])
	}
	for i := range t.Kids {
		if i > 0 || t.Kind != api.Lam && t.Kind != api.Pair {
			places = append(places, &t.Kids[i])
		}
	}
	return places
}
