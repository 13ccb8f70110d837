package schema

import (
	"strings"

	"plenum/api"
	"plenum/lexer"
)

// kind is a kind of tokens: which ones fit it, and an example of them.
type kind struct {
	fits    func(t api.Token) bool
	example api.Token
}

// kinds are the kinds that are known by their names.
type kinds map[string]kind

// allKinds returns all kinds that have names.
func allKinds() kinds {
	number := api.Token{Kind: api.TokNumber}
	return kinds{
		"word":   {isOf(api.TokWord), wordToken("a")},
		"name":   {isWordThat(lexer.Name), wordToken("a")},
		"path":   {isWordThat(lexer.Path), wordToken("a/a")},
		"number": {isOf(api.TokNumber), number},
		"whole":  {isWhole, number},
		"text":   {isOf(api.TokText), api.Token{Kind: api.TokText, Text: "a"}},
		"time":   {isOf(api.TokTime), api.Token{Kind: api.TokTime}},
		"date":   {isOf(api.TokDate), api.Token{Kind: api.TokDate, Text: "2000-01-01"}},
		"any":    {func(api.Token) bool { return true }, wordToken("a")},
	}
}

// wordToken returns a word without a column.
func wordToken(s string) api.Token { return api.Token{Kind: api.TokWord, Text: s} }

// isOf returns a condition: the token is of this kind of api.
func isOf(tokenKind int) func(t api.Token) bool {
	return func(t api.Token) bool { return t.Kind == tokenKind }
}

// isWordThat returns a condition: the token is a word, and its text is as it should be.
func isWordThat(isGood func(s string) bool) func(t api.Token) bool {
	return func(t api.Token) bool { return t.Kind == api.TokWord && isGood(t.Text) }
}

// isWhole reports whether a token is a number that is whole and not negative.
func isWhole(t api.Token) bool { return t.Kind == api.TokNumber && t.N >= 0 && t.N%1000 == 0 }

// exactly returns the kind of the words and signs with this text, which is not empty.
func exactly(text string) kind {
	fits := func(t api.Token) bool {
		return (t.Kind == api.TokWord || t.Kind == api.TokSign) && t.Text == text
	}
	if isLetter(text[0]) {
		return kind{fits, wordToken(text)}
	}
	return kind{fits, api.Token{Kind: api.TokSign, Text: text}}
}

// isLetter reports whether a byte is a letter.
func isLetter(c byte) bool { return 'a' <= c && c <= 'z' || 'A' <= c && c <= 'Z' }

// find returns the kind with a name, or false if there is none. A * at the end of the name has no special meaning.
func (k kinds) find(name string) (kind, bool) {
	if text, exact := strings.CutPrefix(name, "="); exact && text != "" {
		return exactly(text), true
	}
	found, ok := k[name]
	return found, ok
}

// splitArg returns the name of the kind of an argument, and whether it stands for any number of tokens.
func splitArg(arg string) (name string, repeated bool) {
	// This is the kind of the sign *.
	if arg == "=*" {
		return arg, false
	}
	return strings.CutSuffix(arg, "*")
}

// describeKind returns the description of an argument.
func describeKind(arg string) string {
	name, repeated := splitArg(arg)
	text, exact := strings.CutPrefix(name, "=")
	if !exact {
		text = "<" + name + ">"
	}
	if repeated {
		text += "..."
	}
	return text
}

// know reports whether all arguments of a form are of known kinds, and only the last one stands for any number of tokens.
func (k kinds) know(f api.Form) bool {
	for i, arg := range f.Args {
		name, repeated := splitArg(arg)
		if _, ok := k.find(name); !ok || repeated && i < len(f.Args)-1 {
			return false
		}
	}
	return true
}

// Fits reports whether a token is of a kind.
func Fits(kind string, t api.Token) bool {
	found, ok := allKinds().find(kind)
	return ok && found.fits(t)
}
