package level

import (
	"slices"
	"strconv"
	"strings"

	"euclid/api"
)

// maxDigits is the greatest number of digits of a number in the text of a level.
const maxDigits = 6

// Text returns the text of a level.
func Text(l api.Level) (string, api.Errno) {
	if !Valid(l) {
		return "", api.ErrForm
	}
	var texts []string
	if l.Const != 0 || len(l.Vars) == 0 {
		texts = append(texts, strconv.Itoa(l.Const))
	}
	for _, v := range l.Vars {
		if v.Index >= 0 {
			texts = append(texts, varText("u", v.Index, v.Plus))
		}
	}
	// Metavariables descend by number as their indices ascend.
	for _, v := range slices.Backward(l.Vars) {
		if v.Index < 0 {
			texts = append(texts, varText("?", -1-v.Index, v.Plus))
		}
	}
	if len(texts) == 1 {
		return texts[0], api.OK
	}
	return "max(" + strings.Join(texts, ", ") + ")", api.OK
}

func varText(prefix string, number, plus int) string {
	s := prefix + strconv.Itoa(number)
	if plus != 0 {
		s += " + " + strconv.Itoa(plus)
	}
	return s
}

// Parse reads the text of a level.
func Parse(s string) (api.Level, api.Errno) {
	if len(s) > api.MaxText {
		return api.Level{}, api.ErrLong
	}
	// All parts are read before the first is evaluated: an error of syntax
	// anywhere comes before one of range.
	r := reader{text: s}
	parts, ok := r.level()
	if !ok {
		return api.Level{}, api.ErrSyntax
	}
	result := newCollector()
	for _, p := range parts {
		l, err := p.level()
		if err != api.OK {
			return api.Level{}, err
		}
		result.add(l)
	}
	return result.level(), api.OK
}

// part is a part of a level as it is written.
type part struct {
	prefix       string // "u", "?", or "" for a constant
	number, plus int
}

func (p part) level() (api.Level, api.Errno) {
	switch p.prefix {
	case "u":
		return Var(p.number, p.plus)
	case "?":
		return Var(-1-p.number, p.plus)
	}
	return Of(p.number)
}

// reader reads a text from the byte at on. Its methods report whether they found what they look for.
type reader struct {
	text string
	at   int
}

func (r *reader) level() ([]part, bool) {
	parts, ok := r.parts()
	r.spaces()
	return parts, ok && r.at == len(r.text)
}

func (r *reader) parts() ([]part, bool) {
	if !r.sign("max") {
		p, ok := r.part()
		return []part{p}, ok
	}
	if !r.sign("(") {
		return nil, false
	}
	var parts []part
	for {
		p, ok := r.part()
		if !ok {
			return nil, false
		}
		parts = append(parts, p)
		if r.sign(")") {
			return parts, true
		}
		if !r.sign(",") {
			return nil, false
		}
	}
}

func (r *reader) part() (part, bool) {
	var p part
	var ok bool
	for _, prefix := range []string{"u", "?"} {
		if r.sign(prefix) {
			p.prefix = prefix
			break
		}
	}
	if p.number, ok = r.number(); !ok {
		return part{}, false
	}
	if p.prefix == "" || !r.sign("+") {
		return p, true
	}
	r.spaces()
	p.plus, ok = r.number()
	return p, ok
}

// sign reads a sign or word behind any number of spaces. It leaves the spaces
// behind even if the sign is not there: where a sign may stand, so may spaces.
func (r *reader) sign(s string) bool {
	r.spaces()
	if !strings.HasPrefix(r.text[r.at:], s) {
		return false
	}
	r.at += len(s)
	return true
}

func (r *reader) spaces() {
	for r.at < len(r.text) && r.text[r.at] == ' ' {
		r.at++
	}
}

// number reads a decimal number that begins directly here.
func (r *reader) number() (int, bool) {
	start := r.at
	for r.at < len(r.text) && '0' <= r.text[r.at] && r.text[r.at] <= '9' {
		r.at++
	}
	digits := r.text[start:r.at]
	if len(digits) == 0 || len(digits) > maxDigits || len(digits) > 1 && digits[0] == '0' {
		return 0, false
	}
	n, err := strconv.Atoi(digits)
	return n, err == nil
}
