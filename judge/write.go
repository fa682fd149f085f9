package judge

import (
	"cmp"
	"slices"

	"rampart/api"
)

// write is a write of the history: its place, what it wrote, in order, and its keys, rising.
type write struct {
	id      api.ID
	at      int
	pairs   []api.Pair
	keys    []string
	aborted bool
}

func writeOf(at int, e api.Event) *write {
	w := &write{id: e.ID, at: at, pairs: slices.Clone(e.Pairs)}
	slices.SortFunc(w.pairs, comparePairs)
	for _, p := range w.pairs {
		w.keys = append(w.keys, p.Key)
	}
	w.keys = slices.Compact(w.keys)
	return w
}

func comparePairs(a, b api.Pair) int {
	if a.Key != b.Key {
		return cmp.Compare(a.Key, b.Key)
	}
	return cmp.Compare(a.Value, b.Value)
}

// made tells whether a version is what the write wrote.
func (w *write) made(v api.Version) bool {
	_, there := slices.BinarySearchFunc(w.pairs, api.Pair{Key: v.Key, Value: v.Value}, comparePairs)
	return there && slices.Equal(v.Keys, w.keys)
}

// among are those of the keys, which rise, that the write wrote.
func (w *write) among(keys []string) []string {
	// The shorter list is gone through: a short read of long writes, or the other way round, would take too long else.
	few, many := keys, w.keys
	if len(few) > len(many) {
		few, many = many, few
	}
	var both []string
	for _, key := range few {
		if _, there := slices.BinarySearch(many, key); there {
			both = append(both, key)
		}
	}
	return both
}
