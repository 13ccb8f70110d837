package point

import (
	"plenum/api"
	"plenum/lexer"
)

// Line returns the canonical line of a point with its kids.
func Line(p api.Point) (api.Line, api.Errno) {
	if e := Check(p); e != api.OK {
		return api.Line{}, e
	}
	kids := kidLines(p)
	return api.Line{
		Tokens:  wordTokens("point", p.Name, kindWords()[p.Kind-1], roleWords()[p.Role-1]),
		Heading: len(kids) > 0,
		Kids:    kids,
	}, api.OK
}

// kidLines returns the canonical kids of a valid point.
func kidLines(p api.Point) []api.Line {
	var kids []api.Line
	add := func(word string, tokens ...api.Token) {
		kids = append(kids, api.Line{Tokens: append(wordTokens(word), tokens...)})
	}
	if p.Unit != "" {
		add("unit", unitToken(p.Unit))
	}
	if isAnalog(p) {
		add("range", numberToken(p.Low), wordToken("to"), numberToken(p.High))
	}
	if p.Step != 0 {
		add("step", numberToken(p.Step))
	}
	if isMulti(p) {
		add("states", wordTokens(p.States...)...)
	}
	if p.Default != usualDefault(p) {
		add("default", defaultToken(p))
	}
	if p.MinOn != 0 || p.MinOff != 0 {
		add("minimum", wordToken("on"), secondsToken(p.MinOn), wordToken("off"), secondsToken(p.MinOff))
	}
	return kids
}

// wordToken returns a word.
func wordToken(s string) api.Token { return api.Token{Kind: api.TokWord, Text: s} }

// wordTokens returns words.
func wordTokens(list ...string) []api.Token {
	var tokens []api.Token
	for _, s := range list {
		tokens = append(tokens, wordToken(s))
	}
	return tokens
}

// numberToken returns a number of thousandths.
func numberToken(n int64) api.Token { return api.Token{Kind: api.TokNumber, N: n} }

// secondsToken returns a number of seconds.
func secondsToken(n int) api.Token { return numberToken(int64(n) * thousand) }

// unitToken returns the text of a unit, as a word if it can be one.
func unitToken(text string) api.Token {
	if t := wordToken(text); lexer.Valid(t) {
		return t
	}
	return api.Token{Kind: api.TokText, Text: text}
}

// defaultToken returns the Default of a valid point that is no input.
func defaultToken(p api.Point) api.Token {
	n := p.Default.N
	switch p.Kind {
	case api.Binary:
		return wordToken(switchWords()[n])
	case api.Multi:
		return wordToken(p.States[n-1])
	}
	return numberToken(n)
}
