package subst

import (
	"euclid/api"
	"euclid/binder"
	"euclid/clone"
)

// replacer returns what stands in the place of a node, which is below so many binders, and true; or false if the node is copied, and its kids are looked at.
type replacer func(b *builder, t api.Term, binders int) (api.Term, bool)

// builder builds one result.
type builder struct {
	nodes int
	err   api.Errno // the first error but for ErrLong, which comes before the others
}

// build returns a copy of a term in which nodes are replaced.
func build(t api.Term, replace replacer) (result api.Term, err api.Errno) {
	b := builder{}
	defer func() {
		if recover() != nil {
			result, err = api.Term{}, api.ErrLong
		}
	}()
	result = b.copied(t, 0, replace)
	if b.err != api.OK {
		return api.Term{}, b.err
	}
	return result, api.OK
}

// copied counts each node that is not replaced. Therefore it also ends soon for
// terms that are too great for this recursion, which have to be refused.
func (b *builder) copied(t api.Term, binders int, replace replacer) api.Term {
	if with, ok := replace(b, t, binders); ok {
		return with
	}
	b.count()
	result := api.Term{Kind: t.Kind, Index: t.Index, Name: t.Name, Levels: clone.Levels(t.Levels)}
	if len(t.Kids) == 0 {
		return result
	}
	result.Kids = make([]api.Term, len(t.Kids))
	for i, kid := range t.Kids {
		below := binders
		if binder.Below(t.Kind, i) {
			below++
		}
		result.Kids[i] = b.copied(kid, below, replace)
	}
	return result
}

// moved returns a variable with a new index.
func (b *builder) moved(index int) api.Term {
	if index > maxIndex {
		b.fail(api.ErrScope)
	}
	b.count()
	return api.Term{Kind: api.Var, Index: index}
}

// count counts a node of the result and gives up if there are too many.
func (b *builder) count() {
	b.nodes++
	if b.nodes > api.MaxNodes {
		panic(api.ErrLong)
	}
}

func (b *builder) fail(err api.Errno) {
	if b.err == api.OK {
		b.err = err
	}
}

// shifter replaces the nodes that a shift changes.
func shifter(by, from int) replacer {
	return func(b *builder, t api.Term, binders int) (api.Term, bool) {
		i, ok := free(t, binders)
		if !ok || i < from {
			return api.Term{}, false
		}
		if i-from < -by {
			b.fail(api.ErrScope)
		}
		return b.moved(t.Index + by), true
	}
}

// leveller replaces the nodes with levels, each of which is changed.
func leveller(change func(l api.Level) (api.Level, api.Errno)) replacer {
	return func(b *builder, t api.Term, binders int) (api.Term, bool) {
		if len(t.Levels) == 0 {
			return api.Term{}, false
		}
		b.count()
		levels := make([]api.Level, len(t.Levels))
		for i, l := range t.Levels {
			changed, err := change(l)
			if err != api.OK {
				b.fail(err)
			}
			levels[i] = changed
		}
		return api.Term{Kind: t.Kind, Name: t.Name, Levels: levels}, true
	}
}

// free returns the free variable that a node below so many binders is, and whether it is one.
func free(t api.Term, binders int) (int, bool) {
	if t.Kind != api.Var || t.Index < binders {
		return 0, false
	}
	return t.Index - binders, true
}
