package text

import (
	"slices"
	"strconv"

	"euclid/api"
	"euclid/level"
	"euclid/term"
)

// reader reads tokens, each when it is allowed. It stops by a panic at the first one that is not, which is then the next one.
type reader struct{ tokens []token }

// read reads a text that follows a rule.
func read[T any](s string, rule func(r *reader) T) (result T, at int, err api.Errno) {
	r := &reader{}
	for t := range tokens(s) {
		r.tokens = append(r.tokens, t)
	}
	defer func() {
		if recover() != nil {
			var none T
			result, at, err = none, r.next().at, api.ErrSyntax
		}
	}()
	result = rule(r)
	if !r.sees(tokenEnd) {
		r.refuse()
	}
	return result, 0, api.OK
}

func (r *reader) next() token { return r.tokens[0] }

func (r *reader) sees(kind int) bool { return r.next().kind == kind }

// refuse refuses the next token.
func (r *reader) refuse() { panic(api.ErrSyntax) }

// take reads a token, which has to be of a kind; it returns its text.
func (r *reader) take(kind int) string {
	if !r.sees(kind) {
		r.refuse()
	}
	text := r.next().text
	r.tokens = r.tokens[1:]
	return text
}

// number reads a token of a kind whose text is a number.
func (r *reader) number(kind int) int {
	n, _ := strconv.Atoi(r.take(kind))
	return n
}

func (r *reader) name() string {
	if !term.Name(r.next().text) {
		r.refuse()
	}
	return r.take(tokenWord)
}

func (r *reader) level() api.Level {
	l, err := level.Parse(r.next().text)
	if err != api.OK {
		r.refuse()
	}
	r.take(tokenLevel)
	return l
}

// open reads a parenthesis and one of some words, of which it returns the number.
func (r *reader) open(words ...string) int {
	r.take(tokenOpen)
	i := slices.Index(words, r.next().text)
	if i < 0 {
		r.refuse()
	}
	r.take(tokenWord)
	return i
}

func (r *reader) close() { r.take(tokenClose) }

func (r *reader) term() api.Term {
	switch r.next().kind {
	case tokenIndex:
		return api.Term{Kind: api.Var, Index: r.number(tokenIndex)}
	case tokenMeta:
		return api.Term{Kind: api.Meta, Index: r.number(tokenMeta)}
	case tokenOpen:
		return r.node()
	}
	name := r.name()
	if name == propWord {
		return api.Term{Kind: api.Prop}
	}
	return api.Term{Kind: api.Const, Name: name}
}

// node reads a term in parentheses.
func (r *reader) node() api.Term {
	t := api.Term{Kind: r.open(termWords()...)}
	switch t.Kind {
	case api.Sort:
		t.Levels = []api.Level{r.level()}
	case api.Const:
		t.Name = r.name()
		for r.sees(tokenLevel) {
			t.Levels = append(t.Levels, r.level())
		}
	default:
		for range kids(t.Kind) {
			t.Kids = append(t.Kids, r.term())
		}
	}
	r.close()
	return t
}

// kids returns the number of kids of a kind of terms that has some.
func kids(kind int) int {
	switch kind {
	case api.Fst, api.Snd:
		return 1
	case api.Pair, api.Let:
		return 3
	}
	return 2
}

func (r *reader) decl() api.Decl {
	d := api.Decl{Kind: r.open(declWords()...)}
	if d.Kind == api.DeclFunctions {
		d.Params = r.number(tokenNumber)
		for r.sees(tokenOpen) {
			d.Funs = append(d.Funs, r.fun())
		}
		r.close()
		return d
	}
	d.Name = r.name()
	d.Params = r.number(tokenNumber)
	if d.Kind == api.DeclFamily {
		d.Fixed = r.number(tokenNumber)
	}
	d.Type = r.term()
	switch d.Kind {
	case api.DeclDef, api.DeclTheorem:
		d.Value = r.term()
	case api.DeclFamily:
		r.family(&d)
	}
	r.close()
	return d
}

// family reads the constructors and the recursor of a family.
func (r *reader) family(d *api.Decl) {
	for r.open("ctor", "rec") == 0 {
		d.Ctors = append(d.Ctors, api.Ctor{Name: r.name(), Type: r.term()})
		r.close()
	}
	d.Rec.Params = r.number(tokenNumber)
	d.Rec.Type = r.term()
	for !r.sees(tokenClose) {
		d.Rec.Rules = append(d.Rec.Rules, r.term())
	}
	r.close()
}

func (r *reader) fun() api.Fun {
	r.open("fun")
	f := api.Fun{Name: r.name(), Arity: r.number(tokenNumber), Type: r.term(), Tree: r.tree()}
	r.close()
	return f
}

func (r *reader) tree() api.Tree {
	t := api.Tree{Kind: r.open(treeWords()...)}
	if t.Kind == api.TreeLeaf {
		t.Body = r.term()
	} else {
		t.Var = r.number(tokenNumber)
		for r.sees(tokenOpen) {
			t.Branches = append(t.Branches, r.branch())
		}
	}
	r.close()
	return t
}

func (r *reader) branch() api.Branch {
	b := api.Branch{Absurd: r.open("branch", "absurd") == 1}
	b.Ctor = r.name()
	if !b.Absurd {
		b.Tree = r.tree()
	}
	r.close()
	return b
}
