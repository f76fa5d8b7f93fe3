package show

import (
	"cmp"
	"maps"
	"slices"
)

// table is the items of one sort that a project has, by what they are told by.
type table[K cmp.Ordered, V any] struct {
	items  map[K]V
	isSame func(a, b V) bool
}

// tableOf is the table of a list.
func tableOf[K cmp.Ordered, V any](l []V, keyOf func(item V) K, isSame func(a, b V) bool) table[K, V] {
	t := table[K, V]{map[K]V{}, isSame}
	for _, item := range l {
		t.items[keyOf(item)] = item
	}
	return t
}

// hasAlike tells whether two tables have an item alike, or both have it not.
func (t table[K, V]) hasAlike(other table[K, V], key K) bool {
	item, isHere := t.items[key]
	another, isThere := other.items[key]
	return isHere == isThere && (!isHere || t.isSame(item, another))
}

// ascending is all items, in the order of what they are told by.
func (t table[K, V]) ascending() []V {
	var l []V
	for _, key := range keysOf(t) {
		l = append(l, t.items[key])
	}
	return l
}

// keysOf is what the items of some tables are told by, each once, ascending.
func keysOf[K cmp.Ordered, V any](tables ...table[K, V]) []K {
	keys := map[K]bool{}
	for _, t := range tables {
		for key := range t.items {
			keys[key] = true
		}
	}
	return slices.Sorted(maps.Keys(keys))
}

// apart is the items that two tables have not alike, ascending.
func apart[K cmp.Ordered, V any](a, b table[K, V]) []K {
	return slices.DeleteFunc(keysOf(a, b), func(key K) bool { return a.hasAlike(b, key) })
}

// merge is the merged table of an old one and of two others, and the items that are conflicts.
func merge[K cmp.Ordered, V any](old, a, b table[K, V]) (table[K, V], map[K]bool) {
	merged, conflicts := table[K, V]{map[K]V{}, a.isSame}, map[K]bool{}
	// what the old one alone has is what both have not
	for _, key := range keysOf(a, b) {
		from := a
		switch {
		case a.hasAlike(b, key):
		case a.hasAlike(old, key):
			from = b
		case !b.hasAlike(old, key):
			conflicts[key] = true
		}
		if item, isThere := from.items[key]; isThere {
			merged.items[key] = item
		}
	}
	return merged, conflicts
}

// told is the texts of keys.
func told[K any](keys []K, tell func(key K) string) []string {
	var l []string
	for _, key := range keys {
		l = append(l, tell(key))
	}
	return l
}
