package reduce

import (
	"euclid/api"
	"euclid/constants"
	"euclid/formed"
)

// reduction is one reduction of a term. It gives up if it is not light.
type reduction struct {
	env          []api.Decl
	constants    *constants.Table
	contractions int
	rules        [api.EntryFun + 1]contraction
	substitute   func(t api.Term, values []api.Term) (api.Term, api.Errno)
}

// contraction attempts to contract a constant with arguments.
type contraction func(r *reduction, s spine, c constants.Constant) outcome

// outcome is what comes of an attempt to contract a term: the contraction, if it is done; or else a look that has to be taken at a scrutinee first, if there is one.
type outcome struct {
	done   bool
	result api.Term
	look   *look
}

// look is an attempt that depends on a scrutinee.
type look struct {
	scrutinee api.Term
	resume    func(seen api.Term) outcome   // goes on with what the scrutinee is seen as
	stuck     func(seen api.Term) api.Term  // the weak head normal form of the whole term if nothing comes of this
	put       func(other api.Term) api.Term // the whole term with another one in the place of the scrutinee
}

func done(result api.Term) outcome { return outcome{done: true, result: result} }

// isNothing reports whether there is no contraction.
func (o outcome) isNothing() bool { return !o.done && o.look == nil }

func newReduction(env []api.Decl, substitute func(t api.Term, values []api.Term) (api.Term, api.Errno)) *reduction {
	return &reduction{env: env, constants: constants.New(env), substitute: substitute, rules: [api.EntryFun + 1]contraction{
		api.EntryDef: (*reduction).delta,
		api.EntryRec: (*reduction).iota,
		api.EntryFun: (*reduction).match,
	}}
}

// whnf returns the weak head normal form of a term, and the last term to whose head this came: that for which it waits, if it does.
func (r *reduction) whnf(t api.Term) (result, last api.Term) {
	// No recursion: a light reduction may come to scrutinees in scrutinees, 200
	// more of them after each contraction.
	var waiting []*look
	o, last := r.attempt(t), t
	for {
		switch {
		case o.done:
			r.count(o.result)
			t, last = o.result, o.result
			o = r.attempt(t)
		case o.look != nil:
			waiting = append(waiting, o.look)
			t, last = o.look.scrutinee, o.look.scrutinee
			o = r.attempt(t)
		case len(waiting) == 0:
			return t, last
		default:
			w := waiting[len(waiting)-1]
			waiting = waiting[:len(waiting)-1]
			o = w.resume(t)
			if o.isNothing() {
				t = w.stuck(t)
			}
		}
	}
}

// count counts a contraction.
func (r *reduction) count(result api.Term) {
	r.contractions++
	if r.contractions > api.MaxLight || !formed.Fits(result) {
		giveUp()
	}
}

// step returns the next step of a term, and whether there is one.
func (r *reduction) step(t api.Term) (api.Term, bool) {
	var around []*look // at the scrutinees, one in another, in which the contraction is looked for
	for {
		o := r.attempt(t)
		var last *look
		for o.look != nil {
			last = o.look
			o = last.resume(last.scrutinee)
		}
		switch {
		case o.done:
			result := o.result
			for i := len(around) - 1; i >= 0; i-- {
				result = around[i].put(result)
			}
			return result, true
		case last == nil:
			return api.Term{}, false
		}
		around = append(around, last)
		t = last.scrutinee
	}
}

// put returns a term with values for its first variables.
func (r *reduction) put(t api.Term, values ...api.Term) api.Term {
	result, err := r.substitute(t, values)
	if err != api.OK {
		giveUp()
	}
	return result
}
