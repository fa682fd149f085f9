package store

import (
	"slices"
	"strings"

	"rampart/api"
	"rampart/ident"
)

// isWrite tells whether id is a write's name: its sequence number isn't 0.
func isWrite(id api.ID) bool {
	_, _, err := ident.Split(id)
	return err == api.OK
}

func isTick(t int64) bool { return t >= 0 && t <= api.MaxTick }

// areKeys tells whether l may be all the keys of a write.
func areKeys(l []string) bool {
	if len(l) == 0 || len(l) > api.MaxSet {
		return false
	}
	for _, key := range l {
		if len(key) > api.MaxKey {
			return false
		}
	}
	return rising(l, strings.Compare)
}

// arePairs tells whether l may be what a write of these keys says to a partition.
func arePairs(l []api.Pair, keys []string) bool {
	for _, p := range l {
		if len(p.Value) > api.MaxValue || !among(p.Key, keys) {
			return false
		}
	}
	return len(l) > 0 && rising(l, func(a, b api.Pair) int { return strings.Compare(a.Key, b.Key) })
}

// areKept tells whether each of l may be a version, and they are in the order in which a store tells them.
func areKept(l []api.Kept) bool {
	for _, k := range l {
		v := k.Version
		if !isWrite(v.ID) || len(v.Value) > api.MaxValue || !areKeys(v.Keys) || !among(v.Key, v.Keys) {
			return false
		}
	}
	return rising(l, func(a, b api.Kept) int { return byKeyAndID(markOf(a), markOf(b)) })
}

// among tells whether the key is one of the rising keys.
func among(key string, keys []string) bool {
	_, has := slices.BinarySearch(keys, key)
	return has
}

// rising tells whether l is in this order, none twice.
func rising[E any](l []E, order func(a, b E) int) bool {
	for i := 1; i < len(l); i++ {
		if order(l[i-1], l[i]) >= 0 {
			return false
		}
	}
	return true
}
