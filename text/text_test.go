package text_test

import (
	"fmt"
	"math"
	"strings"
	"testing"

	"euclid/api"
	"euclid/term"
	"euclid/text"
)

// tm builds a term of a kind that has only kids.
func tm(kind int, kids ...api.Term) api.Term { return api.Term{Kind: kind, Kids: kids} }

func app(f, a api.Term) api.Term { return tm(api.App, f, a) }

func lam(a, b api.Term) api.Term { return tm(api.Lam, a, b) }

func pi(a, b api.Term) api.Term { return tm(api.Pi, a, b) }

func x(index int) api.Term { return api.Term{Kind: api.Var, Index: index} }

func meta(index int) api.Term { return api.Term{Kind: api.Meta, Index: index} }

func con(name string, levels ...api.Level) api.Term {
	return api.Term{Kind: api.Const, Name: name, Levels: levels}
}

func sort(l api.Level) api.Term { return api.Term{Kind: api.Sort, Levels: []api.Level{l}} }

func lv(constant int, vars ...api.LevelVar) api.Level {
	return api.Level{Const: constant, Vars: vars}
}

func v(index, plus int) api.LevelVar { return api.LevelVar{Index: index, Plus: plus} }

var (
	prop = tm(api.Prop)
	nat  = con("Nat")
)

func show(t any) string { return fmt.Sprintf("%.300s", fmt.Sprint(t)) }

// nested puts a term below as many Fst.
func nested(n int, t api.Term) api.Term {
	for range n {
		t = tm(api.Fst, t)
	}
	return t
}

// balanced applies terms to each other, so that the depth is small.
func balanced(leaves []api.Term) api.Term {
	if len(leaves) == 1 {
		return leaves[0]
	}
	half := len(leaves) / 2
	return app(balanced(leaves[:half]), balanced(leaves[half:]))
}

// sized returns a term whose text has that many bytes, from 64000 to 66000: 930 names and 929 applications of 7 bytes each.
func sized(bytes int) api.Term {
	var leaves []api.Term
	rest := bytes - 929*7
	for n := 930; n > 0; n-- {
		leaves = append(leaves, con(strings.Repeat("n", rest/n)))
		rest -= rest / n
	}
	return balanced(leaves)
}

// wantTerm checks the results of Parse; beside an error the term has to be zero.
func wantTerm(t *testing.T, source string, wanted api.Term, wantAt int, wantErr api.Errno) {
	t.Helper()
	got, at, err := text.Parse(source)
	if err != wantErr || at != wantAt || !term.Same(got, wanted) {
		t.Errorf("Parse(%.300q): got %s, error %d at %d, want %s, error %d at %d", source, show(got), err, at, show(wanted), wantErr, wantAt)
	}
}

// wantRefused checks that Parse refuses a source at an offset.
func wantRefused(t *testing.T, source string, at int) {
	t.Helper()
	wantTerm(t, source, api.Term{}, at, api.ErrSyntax)
}

// P6.1
func TestTexts(t *testing.T) {
	for _, c := range []struct {
		t    api.Term
		text string
	}{
		{x(0), "#0"},
		{x(999999), "#999999"},
		{meta(0), "?0"},
		{meta(999999), "?999999"},
		{prop, "prop"},
		{sort(lv(0)), "(sort [0])"},
		{sort(lv(2, v(1, 0), v(2, 1))), "(sort [max(2, u1, u2 + 1)])"},
		{sort(lv(0, v(-1, 3))), "(sort [?0 + 3])"},
		{nat, "Nat"},
		{con("Nat.rec'"), "Nat.rec'"},
		{con("Eq", lv(0, v(0, 0))), "(const Eq [u0])"},
		{con("f", lv(1), lv(0), lv(0, v(-2, 0), v(0, 4))), "(const f [1] [0] [max(u0 + 4, ?1)])"},
		{con("prop"), "(const prop)"},
		{con("prop", lv(3)), "(const prop [3])"},
		{con("const"), "const"},
		{con("app"), "app"},
		{con("Prop"), "Prop"},
		{app(con("lam"), x(3)), "(app lam #3)"},
		{lam(nat, x(0)), "(lam Nat #0)"},
		{pi(prop, pi(x(0), x(1))), "(pi prop (pi #0 #1))"},
		{tm(api.Sigma, nat, con("const")), "(sigma Nat const)"},
		{tm(api.Pair, tm(api.Sigma, nat, nat), meta(3), meta(4)), "(pair (sigma Nat Nat) ?3 ?4)"},
		{tm(api.Fst, tm(api.Snd, x(7))), "(fst (snd #7))"},
		{tm(api.Let, sort(lv(1)), nat, app(con("List", lv(0)), x(0))), "(let (sort [1]) Nat (app (const List [0]) #0))"},
		{con(strings.Repeat("a", 64)), strings.Repeat("a", 64)},
		{sort(lv(0, v(-65536, 100), v(7, 100))), "(sort [max(u7 + 100, ?65535 + 100)])"},
	} {
		got, err := text.Print(c.t)
		if got != c.text || err != api.OK {
			t.Errorf("Print(%s): got %q, error %d, want %q", show(c.t), got, err, c.text)
		}
		wantTerm(t, c.text, c.t, 0, api.OK)
	}
}

// P6.1
func TestPrintErrors(t *testing.T) {
	wide := con("f", lv(0), lv(0), lv(0), lv(0), lv(0), lv(0), lv(0), lv(0), lv(0))
	big := nat
	for range 12 {
		big = app(big, big)
	}
	for _, c := range []struct {
		t   api.Term
		err api.Errno
	}{
		{x(1000000), api.ErrScope},
		{x(-1), api.ErrScope},
		{lam(nat, x(1000001)), api.ErrScope},
		{meta(1000000), api.ErrMeta},
		{lam(nat, meta(1000000)), api.ErrMeta},
		{wide, api.ErrMany},
		{con("a."), api.ErrName},
		{con(""), api.ErrName},
		{con(strings.Repeat("a", 65)), api.ErrName},
		{sort(lv(101)), api.ErrForm},
		{sort(lv(0, v(8, 0))), api.ErrForm},
		{tm(api.Sort), api.ErrForm},
		{tm(13), api.ErrForm},
		{tm(-1), api.ErrForm},
		{tm(api.App, nat), api.ErrForm},
		{api.Term{Kind: api.Prop, Index: 1}, api.ErrForm},
		{app(x(-1), wide), api.ErrScope},
		{big, api.ErrLong},
		{nested(200, nat), api.ErrDeep},
		{sized(65537), api.ErrLong},
		{sized(65538), api.ErrLong},
		{tm(api.Pair, sized(65530), nat, tm(api.Fst, nat)), api.ErrLong},
		{nested(199, nat), api.OK},
		{sized(65536), api.OK},
	} {
		got, err := text.Print(c.t)
		if err != c.err || (got == "") != (err != api.OK) {
			t.Errorf("Print(%s): got %.100q, error %d, want error %d", show(c.t), got, err, c.err)
		}
	}
	if s, _ := text.Print(sized(65536)); len(s) != 65536 {
		t.Errorf("the text has %d bytes", len(s))
	}
	// A level may have very many variables.
	var vars []api.LevelVar
	for i := -65536; i < 8; i++ {
		vars = append(vars, v(i, 0))
	}
	if got, err := text.Print(sort(lv(0, vars...))); got != "" || err != api.ErrLong {
		t.Errorf("Print of a great level: got %.100q, error %d", got, err)
	}
}

// P6.1: an index may have seven digits below a binder; such a text cannot be read.
func TestSevenDigits(t *testing.T) {
	got, err := text.Print(lam(nat, x(1000000)))
	if got != "(lam Nat #1000000)" || err != api.OK {
		t.Errorf("Print: got %q, error %d", got, err)
	}
	wantRefused(t, got, 9)
	wantRefused(t, "?1000000", 0)
}

// P6.1
func TestParseOtherTexts(t *testing.T) {
	for _, c := range []struct {
		source string
		want   api.Term
	}{
		{"( lam\nprop #0 )", lam(prop, x(0))},
		{" \t\r\n(\tapp\r\nf\n\n?1 ) \t\r\n", app(con("f"), meta(1))},
		{"(app#0#1)", app(x(0), x(1))},
		{"(app(fst f)g)", app(tm(api.Fst, con("f")), con("g"))},
		{"(app#0(const f[0][u1]))", app(x(0), con("f", lv(0), lv(0, v(1, 0))))},
		{"(const Nat)", nat},
		{"(const prop)", con("prop")},
		{"(sort [ max( u1 , 2, u1+1) ])", sort(lv(2, v(1, 1)))},
		{"(const f [max(u1+1,2,1,u1)] [ 0 ])", con("f", lv(2, v(1, 1)), lv(0))},
		{"(sort[max(0)])", sort(lv(0))},
	} {
		wantTerm(t, c.source, c.want, 0, api.OK)
	}
	wantTerm(t, strings.Repeat(" ", 65535)+"f", con("f"), 0, api.OK)
	wantTerm(t, "f"+strings.Repeat("\n", 65535), con("f"), 0, api.OK)
}

// P6.1: the offset is that of the first byte at which no token begins, or of the first token that is not allowed; here of bytes that are no tokens and words that are no names.
func TestTokenErrors(t *testing.T) {
	for _, c := range []struct {
		source string
		at     int
	}{
		{"#01", 0},
		{"#0a", 0},
		{" #", 1},
		{"# 0", 0},
		{"#", 0},
		{"#-1", 0},
		{"#00", 0},
		{"#1234567", 0},
		{"?", 0},
		{"?x", 0},
		{"?0'", 0},
		{"?0.", 0},
		{"00", 0},
		{"0", 0},
		{"12", 0},
		{"1a", 0},
		{"f 1a", 2},
		{"a.", 0},
		{".a", 0},
		{"'a", 0},
		{"a..b", 0},
		{"a.1", 0},
		{"...", 0},
		{strings.Repeat("a", 65), 0},
		{"$", 0},
		{"f$", 1},
		{"f,", 1},
		{"f -- comment", 2},
		{"(app f é)", 7},
		{"\x00", 0},
		{"f\v", 1},
		{"f\u00a0", 1},
	} {
		wantRefused(t, c.source, c.at)
	}
}

// P6.1: here it is that of a token that is not allowed.
func TestSyntaxErrors(t *testing.T) {
	for _, c := range []struct {
		source string
		at     int
	}{
		{"", 0},
		{"  ", 2},
		{"(app f)", 6},
		{"(app f", 6},
		{"(app f  ", 8},
		{"f g", 2},
		{"f prop", 2},
		{"#0#1", 2},
		{"f)", 1},
		{")", 0},
		{") $", 0},
		{"()", 1},
		{"( )", 2},
		{"(", 1},
		{"((app f f))", 1},
		{"(f)", 1},
		{"(prop)", 1},
		{"(var 0)", 1},
		{"(#0)", 1},
		{"(?0)", 1},
		{"(0)", 1},
		{"([0])", 1},
		{"([app] f f)", 1},
		{"(app f f f)", 9},
		{"(fst f f)", 7},
		{"(pair f f)", 9},
		{"(let f f f f)", 11},
		{"(lam Nat #0 $)", 12},
		{"(sort)", 5},
		{"(sort 0)", 6},
		{"(sort u0)", 6},
		{"(sort [0] [0])", 10},
		{"(sort [u8])", 6},
		{"(sort [])", 6},
		{"(sort [101])", 6},
		{"(sort [00])", 6},
		{"(sort [?65536])", 6},
		{"(sort [\t0])", 6},
		{"(sort [0)", 6},
		{"(sort [[0]])", 6},
		{"(sort 0])", 6},
		{"[0]", 0},
		{"[f]", 0},
		{"[prop]", 0},
		{"]", 0},
		{"[", 0},
		{"f [", 2},
		{"(app Eq [0])", 8},
		{"(const)", 6},
		{"(const a.)", 7},
		{"(const 1)", 7},
		{"(const [f])", 7},
		{"(const f 0)", 9},
		{"(const f g)", 9},
		{"(const f [0] [x] $)", 13},
		{"(const #0)", 7},
		{"(const (const f))", 7},
		{"(app app)", 8},
		{"(App f f)", 1},
		{"(app_ f f)", 1},
		{"(appf f)", 1},
		{"(axiom a 0 Nat)", 1},
	} {
		wantRefused(t, c.source, c.at)
	}
	wantRefused(t, strings.Repeat("(", 65536), 1)
	wantRefused(t, strings.Repeat("(fst", 16384), 65536)
	wantRefused(t, strings.Repeat("(app f", 10000)+strings.Repeat(")", 5000), 60000)
}

// P6.1: errors that come before and behind those of the syntax.
func TestParseErrors(t *testing.T) {
	levels := "(const f" + strings.Repeat(" [0]", 9) + ")"
	deep := strings.Repeat("(fst ", 200) + "f" + strings.Repeat(")", 200)
	long := strings.Repeat("(pair f f ", 150) + "f" + strings.Repeat(")", 150)
	for range 4 {
		long = "(pair f " + long + long + ")"
	}
	printed, _ := text.Print(sized(65536))
	tight := "(fst" + strings.ReplaceAll(printed, "(app (", "(app(") + ")"
	if len(tight) > 65536 {
		t.Fatalf("the source has %d bytes", len(tight))
	}
	for _, c := range []struct {
		source string
		err    api.Errno
	}{
		{strings.Repeat(" ", 65536) + "f", api.ErrLong},
		{strings.Repeat("$", 65537), api.ErrLong},
		{levels, api.ErrMany},
		{"(app " + levels + " f)", api.ErrMany},
		{deep, api.ErrDeep},
		{long, api.ErrLong},
		{tight, api.ErrLong},
	} {
		wantTerm(t, c.source, api.Term{}, 0, c.err)
	}
	wantTerm(t, deep[len("(fst "):len(deep)-1], nested(199, con("f")), 0, api.OK)
	wantTerm(t, tight[:len(tight)-1], api.Term{}, len(tight)-1, api.ErrSyntax)
	wantRefused(t, levels+")", len(levels))
	wantRefused(t, deep+" f", len(deep)+1)
}

// P1: the functions return for all arguments.
func TestOddTerms(t *testing.T) {
	deep := nat
	for range 1 << 20 {
		deep = tm(api.Fst, deep)
	}
	for _, a := range []api.Term{
		deep, x(math.MaxInt), x(math.MinInt), tm(api.Lam), {Kind: api.Sort, Kids: []api.Term{nat}},
		con("f", lv(0, v(math.MinInt, math.MaxInt))), {Kind: math.MinInt}, {Kind: math.MaxInt},
	} {
		if got, err := text.Print(a); got != "" || err == api.OK {
			t.Errorf("Print(%s): got %.100q, error %d", show(a.Kind), got, err)
		}
	}
}
