// Package copies makes copies of states that share no memory with them, so that a function can change its copy and return it. It is no layer.
package copies

import (
	"slices"

	"radiolink/api"
)

// Compressor returns a compressor that is equal to c.
func Compressor(c api.Compressor) api.Compressor {
	c.Contexts = slices.Clone(c.Contexts)
	for i, s := range c.Contexts {
		c.Contexts[i].References = slices.Clone(s.References)
	}
	return c
}
