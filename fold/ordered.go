package fold

import (
	"cmp"
	"slices"
)

// ordered is a map whose values are told in the order of their keys.
type ordered[K cmp.Ordered, V any] map[K]V

// values are all values, by their keys rising.
func (o ordered[K, V]) values() []V {
	keys := make([]K, 0, len(o))
	for key := range o {
		keys = append(keys, key)
	}
	slices.Sort(keys)
	all := make([]V, len(keys))
	for i, key := range keys {
		all[i] = o[key]
	}
	return all
}
