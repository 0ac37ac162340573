package sample

import (
	"relucert/api"
	"relucert/decimal"
)

// Number returns the canonical number of a text, which has to be one of layer 4.
func Number(text string) api.Rat {
	x, _, e := decimal.Parse(text)
	if e != api.OK {
		panic(text)
	}
	return x
}

// Numbers returns the canonical numbers of texts.
func Numbers(texts ...string) []api.Rat {
	var out []api.Rat
	for _, text := range texts {
		out = append(out, Number(text))
	}
	return out
}
