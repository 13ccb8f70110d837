package lines

import "plenum/api"

// Word returns a word without a column.
func Word(s string) api.Token { return api.Token{Kind: api.TokWord, Text: s} }

// Words returns words without columns.
func Words(list ...string) []api.Token {
	var tokens []api.Token
	for _, s := range list {
		tokens = append(tokens, Word(s))
	}
	return tokens
}

// Number returns a number of thousandths without a column.
func Number(n int64) api.Token { return api.Token{Kind: api.TokNumber, N: n} }

// Whole returns a whole number without a column.
func Whole(n int) api.Token { return Number(int64(n) * thousand) }
