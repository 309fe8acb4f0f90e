package text_test

import (
	"fmt"
	"math/rand/v2"
	"reflect"
	"regexp"
	"slices"
	"strings"
	"testing"

	"euclid/api"
	"euclid/level"
	"euclid/term"
	"euclid/text"
)

// maker makes random printable terms and declarations.
type maker struct{ *rand.Rand }

func (m maker) pick(words ...string) string { return words[m.IntN(len(words))] }

func (m maker) name() string {
	return m.pick("Nat", "Nat.rec", "prop", "lam", "const", "x'", "_", "_1.a'", "u0", "sort", strings.Repeat("n", 64))
}

func (m maker) number() int { return []int{0, 1, 7, 10, 999999}[m.IntN(5)] }

func (m maker) level() api.Level {
	l := lv(m.IntN(4))
	for range m.IntN(3) {
		more, _ := level.Var(m.IntN(6)-3, m.IntN(3))
		l, _ = level.Max(l, more)
	}
	return l
}

func (m maker) term(depth int) api.Term {
	if depth <= 1 || m.IntN(6) == 0 {
		switch m.IntN(5) {
		case 0:
			return prop
		case 1:
			return sort(m.level())
		case 2:
			return meta(m.number())
		case 3:
			c := con(m.name())
			for range m.IntN(4) {
				c.Levels = append(c.Levels, m.level())
			}
			return c
		}
		return x(m.number())
	}
	t := api.Term{Kind: api.App + m.IntN(api.Let-api.App+1)}
	kids := [api.Kinds]int{api.Pair: 3, api.Let: 3, api.Fst: 1, api.Snd: 1}[t.Kind]
	if kids == 0 {
		kids = 2
	}
	for range kids {
		t.Kids = append(t.Kids, m.term(depth-1))
	}
	return t
}

func (m maker) tree(depth int) api.Tree {
	if depth <= 1 || m.IntN(3) == 0 {
		return leaf(m.term(3))
	}
	t := split(m.number())
	for range m.IntN(4) {
		if m.IntN(3) == 0 {
			t.Branches = append(t.Branches, absurd(m.name()))
		} else {
			t.Branches = append(t.Branches, branch(m.name(), m.tree(depth-1)))
		}
	}
	return t
}

func (m maker) decl() api.Decl {
	d := api.Decl{Kind: m.IntN(5), Params: m.number()}
	if d.Kind == api.DeclFunctions {
		for range m.IntN(3) {
			d.Funs = append(d.Funs, api.Fun{Name: m.name(), Type: m.term(3), Arity: m.number(), Tree: m.tree(4)})
		}
		return d
	}
	d.Name, d.Type = m.name(), m.term(4)
	switch d.Kind {
	case api.DeclDef, api.DeclTheorem:
		d.Value = m.term(4)
	case api.DeclFamily:
		d.Fixed = m.number()
		for range m.IntN(3) {
			d.Ctors = append(d.Ctors, api.Ctor{Name: m.name(), Type: m.term(3)})
		}
		d.Rec = api.Recursor{Params: m.number(), Type: m.term(3)}
		for range m.IntN(3) {
			d.Rec.Rules = append(d.Rec.Rules, m.term(3))
		}
	}
	return d
}

// tokenOrOther finds the tokens of a text, and what is none.
var tokenOrOther = regexp.MustCompile(`[()]|\[[^\]]*\]|[^ ()]+`)

// spaced joins tokens by any white space, which has to be there between two words only.
func (m maker) spaced(tokens []string) string {
	var b strings.Builder
	apart := true
	for _, token := range tokens {
		space := m.pick("", "", " ", "\n", "\t", "\r\n", "   ")
		if !apart && space == "" && !strings.Contains("()[#?", token[:1]) {
			space = " "
		}
		b.WriteString(space + token)
		apart = strings.Contains("()]", token[len(token)-1:])
	}
	return b.String() + m.pick("", " ", "\n")
}

// P6.3
func TestParseUndoesPrint(t *testing.T) {
	m := maker{rand.New(rand.NewPCG(6, 1))}
	for range 3000 {
		a := m.term(1 + m.IntN(6))
		s, err := text.Print(a)
		if err != api.OK {
			t.Fatalf("Print(%s): error %d", show(a), err)
		}
		wantTerm(t, s, a, 0, api.OK)
		wantTerm(t, m.spaced(tokenOrOther.FindAllString(s, -1)), a, 0, api.OK)
	}
	for range 3000 {
		d := m.decl()
		s, err := text.PrintDecl(d)
		if err != api.OK {
			t.Fatalf("PrintDecl(%s): error %d", show(d), err)
		}
		wantDecl(t, s, d, 0, api.OK)
		wantDecl(t, m.spaced(tokenOrOther.FindAllString(s, -1)), d, 0, api.OK)
	}
}

// P6.3: what is accepted is not accepted any more if something is missing at its end, or added.
func TestPrefixesAndMore(t *testing.T) {
	m := maker{rand.New(rand.NewPCG(6, 2))}
	more := []string{"(", ")", "[0]", "#0", "?1", "12", "a", " prop", "(lam Nat #0)", "$", " #", "["}
	for range 200 {
		a, d := m.term(1+m.IntN(4)), m.decl()
		s, _ := text.Print(a)
		if s[0] == '(' {
			for i := range len(s) {
				if got, _, err := text.Parse(s[:i]); err != api.ErrSyntax || !term.Same(got, api.Term{}) {
					t.Errorf("Parse(%q): got %s, error %d", s[:i], show(got), err)
				}
			}
			for _, token := range more {
				wantRefused(t, s+token, len(s)+strings.Index(token, strings.TrimSpace(token)))
			}
		}
		s, _ = text.PrintDecl(d)
		for i := range len(s) {
			if got, _, err := text.ParseDecl(s[:i]); err != api.ErrSyntax || !reflect.DeepEqual(got, api.Decl{}) {
				t.Errorf("ParseDecl(%q): got %s, error %d", s[:i], show(got), err)
			}
		}
		for _, token := range more {
			wantDeclRefused(t, s+token, len(s)+strings.Index(token, strings.TrimSpace(token)))
		}
	}
}

// P6.3: different terms have different texts, since each text has one term.
func TestTextsDiffer(t *testing.T) {
	m := maker{rand.New(rand.NewPCG(6, 3))}
	terms := map[string]api.Term{}
	for range 20000 {
		a := m.term(1 + m.IntN(3))
		s, _ := text.Print(a)
		if b, ok := terms[s]; ok && !term.Same(a, b) {
			t.Errorf("%s and %s have the text %q", show(a), show(b), s)
		}
		terms[s] = a
	}
}

// grammar has the rules of the texts: for each symbol the symbols that may
// take its place, by the token that comes next; "" stands for all others.
// Symbols without rules are tokens, and a symbol in quotes is a word.
var grammar = map[string]map[string]string{
	"term":  {"index": "index", "meta": "meta", "name": "name", "(": "( form )"},
	"terms": {")": "", "": "term terms"},
	"form": {
		"'sort'": "'sort' level", "'const'": "'const' name levels", "'app'": "'app' term term", "'lam'": "'lam' term term",
		"'pi'": "'pi' term term", "'sigma'": "'sigma' term term", "'pair'": "'pair' term term term",
		"'fst'": "'fst' term", "'snd'": "'snd' term", "'let'": "'let' term term term",
	},
	"levels": {"level": "level levels", "": ""},
	"decl":   {"(": "( kind )"},
	"kind": {
		"'axiom'": "'axiom' name number term", "'def'": "'def' name number term term", "'theorem'": "'theorem' name number term term",
		"'family'": "'family' name number number term ( ctors", "'functions'": "'functions' number funs",
	},
	"ctors":    {"'ctor'": "'ctor' name term ) ( ctors", "'rec'": "'rec' number term terms )"},
	"funs":     {"(": "( 'fun' name number term tree ) funs", "": ""},
	"tree":     {"(": "( node )"},
	"node":     {"'leaf'": "'leaf' term", "'split'": "'split' number branches"},
	"branches": {"(": "( branch ) branches", "": ""},
	"branch":   {"'branch'": "'branch' name tree", "'absurd'": "'absurd' name"},
}

var (
	space      = regexp.MustCompile(`^[ \t\r\n]*`)
	anyToken   = regexp.MustCompile(`^(?:[()]|\[[^\]]*\]|[#?]?[a-zA-Z0-9_'.]+)`)
	someNumber = regexp.MustCompile(`^(?:0|[1-9][0-9]{0,5})$`)
	someName   = regexp.MustCompile(`^[a-zA-Z_][a-zA-Z0-9_']*(?:\.[a-zA-Z_][a-zA-Z0-9_']*)*$`)
)

// classes returns what a token may be taken for.
func classes(token string) []string {
	switch {
	case token == "(" || token == ")":
		return []string{token}
	case token[0] == '[':
		if _, err := level.Parse(token[1 : len(token)-1]); err == api.OK {
			return []string{"level"}
		}
	case token[0] == '#' && someNumber.MatchString(token[1:]):
		return []string{"index"}
	case token[0] == '?' && someNumber.MatchString(token[1:]):
		return []string{"meta"}
	case someNumber.MatchString(token):
		return []string{"number"}
	case someName.MatchString(token) && len(token) <= api.MaxName:
		return []string{"'" + token + "'", "name"}
	}
	return nil
}

// refusedAt returns the offset at which a text with this first symbol is not one any more, or -1.
func refusedAt(s, symbol string) int {
	stack, at := []string{symbol}, 0
	for {
		at += len(space.FindString(s[at:]))
		if at == len(s) && len(stack) == 0 {
			return -1
		}
		token := anyToken.FindString(s[at:])
		if token == "" || !consume(&stack, classes(token)) {
			return at
		}
		at += len(token)
	}
}

// consume changes the stack, whose top is its last symbol, until one of the classes of a token was taken from it.
func consume(stack *[]string, classes []string) bool {
	for len(*stack) > 0 && len(classes) > 0 {
		top := (*stack)[len(*stack)-1]
		*stack = (*stack)[:len(*stack)-1]
		rules, ok := grammar[top]
		if !ok {
			return slices.Contains(classes, top)
		}
		symbols, ok := rules[""]
		for _, class := range classes {
			if rule, found := rules[class]; found {
				symbols, ok = rule, true
				break
			}
		}
		if !ok {
			return false
		}
		next := strings.Fields(symbols)
		slices.Reverse(next)
		*stack = append(*stack, next...)
	}
	return false
}

// damaged changes a text at some places.
func (m maker) damaged(s string) string {
	tokens := tokenOrOther.FindAllString(s, -1)
	for range 1 + m.IntN(2) {
		i := m.IntN(len(tokens) + 1)
		switch m.IntN(5) {
		case 0:
			tokens = slices.Delete(tokens, min(i, len(tokens)-1), min(i+1, len(tokens)))
		case 1:
			tokens = slices.Insert(tokens, i, m.pick("(", ")", "[0]", "[u9]", "[", "#0", "#07", "?3", "0", "12", "1234567", "a.", "x", "prop", "app", "fst", "const", "branch", "leaf", "$", "é"))
		case 2:
			if i < len(tokens) {
				tokens[i] = m.pick("(", ")", "[1]", "#1", "?", "5", "f", "let", "sort", "ctor", "rec", "absurd", "split", "'", "0x")
			}
		case 3:
			if i < len(tokens) {
				j := m.IntN(len(tokens[i]))
				tokens[i] = tokens[i][:j] + m.pick("'", ".", "0", "#", "(", "[", "]", "\n", "\v") + tokens[i][j+1:]
			}
		case 4:
			if i < len(tokens) {
				j := m.IntN(len(tokens))
				tokens[i], tokens[j] = tokens[j], tokens[i]
			}
		}
		if len(tokens) == 0 {
			return ""
		}
	}
	return m.spaced(tokens)
}

// P6.1, P6.2: a source is refused at the first token behind which nothing could make it a text.
func TestDamagedTexts(t *testing.T) {
	m := maker{rand.New(rand.NewPCG(6, 4))}
	counts := map[bool]int{}
	check := func(s, symbol string, at int, err api.Errno) {
		wantAt := refusedAt(s, symbol)
		counts[wantAt < 0]++
		wantErr := api.ErrSyntax
		if wantAt < 0 {
			wantAt, wantErr = 0, api.OK
		}
		if at != wantAt || err != wantErr {
			t.Errorf("%q: error %d at %d, want error %d at %d", s, err, at, wantErr, wantAt)
		}
	}
	for range 20000 {
		s, _ := text.Print(m.term(2 + m.IntN(4)))
		s = m.damaged(s)
		_, at, err := text.Parse(s)
		check(s, "term", at, err)
		s, _ = text.PrintDecl(m.decl())
		s = m.damaged(s)
		_, at, err = text.ParseDecl(s)
		check(s, "decl", at, err)
	}
	if counts[true] < 1000 || counts[false] < 10000 {
		t.Errorf("too few texts of a kind: %v", counts)
	}
}

// P6.1, P6.2: what is read is printed as it has to be, and is the same if it is read again.
func TestPrintOfParse(t *testing.T) {
	m := maker{rand.New(rand.NewPCG(6, 5))}
	for range 5000 {
		s, _ := text.PrintDecl(m.decl())
		s = m.damaged(s)
		d, _, err := text.ParseDecl(s)
		if err != api.OK {
			continue
		}
		printed, err := text.PrintDecl(d)
		if err != api.OK || strings.Contains(printed, "( ") || strings.Contains(printed, " )") || strings.ContainsAny(printed, "\t\r\n") {
			t.Errorf("PrintDecl of %q: %q, error %d", s, printed, err)
		}
		wantDecl(t, printed, d, 0, api.OK)
	}
}

// Results share no memory with arguments or with each other, and arguments stay as they are.
func TestMemory(t *testing.T) {
	source := "(functions 0 (fun f 0 (const f [u0] [u0]) (leaf (const f [u0] [u0]))))"
	d, _, _ := text.ParseDecl(source)
	again, _, _ := text.ParseDecl(source)
	before := fmt.Sprint(d)
	if s, err := text.PrintDecl(d); s != source || err != api.OK || fmt.Sprint(d) != before {
		t.Errorf("PrintDecl changes its argument, or returns %q, error %d", s, err)
	}
	d.Funs[0].Type.Levels[0].Vars[0].Plus = 77
	if d.Funs[0].Type.Levels[1].Vars[0].Plus != 0 || fmt.Sprint(d.Funs[0].Tree) != fmt.Sprint(again.Funs[0].Tree) || fmt.Sprint(again) != before {
		t.Error("levels share memory")
	}
}
