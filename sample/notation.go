package sample

import (
	"strconv"
	"strings"

	"euclid/api"
	"euclid/text"
)

// Parse reads a term from its text, in which {f a b} is f applied to a and b, and a number is a numeral.
func Parse(source string) api.Term {
	t, _, err := text.Parse(plain(source, func(word string) string {
		n, err := strconv.Atoi(word)
		if err != nil {
			return word
		}
		return strings.Repeat("(app Nat.succ ", n) + "Nat.zero" + strings.Repeat(")", n)
	}))
	if err != api.OK {
		panic("no term: " + source)
	}
	return t
}

// Decl reads a declaration from its text, in which {f a b} is f applied to a and b.
func Decl(source string) api.Decl {
	d, _, err := text.ParseDecl(plain(source, func(word string) string { return word }))
	if err != api.OK {
		panic("no declaration: " + source)
	}
	return d
}

// plain returns a text without braces, and with its words as word returns them.
func plain(source string, word func(string) string) string {
	parts, rest := plainParts(source, word)
	if rest != "" {
		panic("a bracket is not opened: " + source)
	}
	return strings.Join(parts, " ")
}

// plainParts returns the parts of a text up to the next bracket that is not opened in it, and what begins with this.
func plainParts(source string, word func(string) string) ([]string, string) {
	var parts []string
	for {
		source = strings.TrimSpace(source)
		switch {
		case source == "" || source[0] == ')' || source[0] == '}':
			return parts, source
		case source[0] == '(' || source[0] == '{':
			inner, rest := plainParts(source[1:], word)
			if source[0] == '(' {
				parts = append(parts, "("+strings.Join(inner, " ")+")")
			} else {
				parts = append(parts, applied(inner))
			}
			source = rest[1:]
		case source[0] == '[':
			end := strings.IndexByte(source, ']') + 1
			parts = append(parts, source[:end])
			source = source[end:]
		default:
			end := strings.IndexAny(source+" ", " \t\n(){}[]")
			parts = append(parts, word(source[:end]))
			source = source[end:]
		}
	}
}

// applied returns the text of the first part applied to the others.
func applied(parts []string) string {
	result := parts[0]
	for _, arg := range parts[1:] {
		result = "(app " + result + " " + arg + ")"
	}
	return result
}
