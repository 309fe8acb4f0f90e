package sample

import (
	"euclid/api"
	"euclid/spines"
)

// Maker makes terms in the environment Env from numbers: IntN(n) is one from 0 to n - 1.
type Maker struct{ IntN func(n int) int }

// Term returns a term, which need not have a type. Its depth is limited.
func (m Maker) Term(depth int) api.Term {
	if depth <= 0 {
		return m.Leaf()
	}
	below := func() api.Term { return m.Term(depth - 1 - m.IntN(2)) }
	switch m.IntN(16) {
	case 0:
		return Node(api.Let, below(), below(), below())
	case 1:
		return Node(api.Fst, below())
	case 2:
		return Node(api.Snd, below())
	case 3:
		return Node(api.Pair, m.Leaf(), below(), below())
	case 4:
		return Node(api.Lam, m.Leaf(), below())
	case 5:
		return spines.Apply(Node(api.Lam, m.Leaf(), below()), below())
	case 6:
		return spines.Apply(below(), below())
	case 7:
		return m.Leaf()
	case 8:
		return Node(api.Fst, Node(api.Pair, m.Leaf(), below(), below()))
	}
	t, args := m.constant()
	for range args + []int{-1, 0, 0, 0, 0, 0, 0, 1}[m.IntN(8)] {
		t = spines.Apply(t, below())
	}
	return t
}

// Leaf returns a small term.
func (m Maker) Leaf() api.Term {
	return Parse(m.one("#0", "#1", "#2", "?0", "?1", "?2", "0", "1", "two", "Nat", "prop", "Nat.succ", "plus", "(lam Nat #0)", "(lam Nat {Nat.succ #0})"))
}

// constant returns a constant, or something like one, and a usual number of its arguments.
func (m Maker) constant() (api.Term, int) {
	var head string
	args := m.IntN(7)
	switch args {
	case 0:
		head = m.one("Nat.zero", "two", "(const big [3])", "(const big [43])", "thm", "(const ax [1])", "Nat", "#1", "?0")
	case 1:
		head = m.one("Nat.succ", "even", "odd", "grow", "loop", "loop", "(const Vec.nil [0])", "none", "#0", "?1")
	case 2:
		head = m.one("plus", "plus", "less", "less", "(const head [1])", "(const head [31])", "(const id [0])", "apart", "(const plus [0])")
	case 3:
		head = "leafy"
	case 4:
		head = m.one("(const Nat.rec [0])", "(const Nat.rec [0])", "Vec.cons", "Nat.rec")
	case 5:
		return Const("Nat.succ"), 1
	case 6:
		head = m.one("(const Vec.rec [0] [0])", "(const Vec.rec [0] [51])")
	}
	return Parse(head), args
}

func (m Maker) one(of ...string) string { return of[m.IntN(len(of))] }
