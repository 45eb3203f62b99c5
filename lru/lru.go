// Package lru: a cache that forgets what was not used for longest: see DOC.md.
package lru

import "encore/api"

// Cache keeps values by their keys. A value is kept as it is handed in: of a
// value of any type no deeper copy can be made.
type Cache[K comparable, V any] struct {
	capacity int
	// The key that was used last stands first. No map beside it: with at most
	// api.MaxCache keys a search is short, and their order is the list's own.
	entries []entry[K, V]
}

type entry[K comparable, V any] struct {
	key   K
	value V
}

// New makes a cache (P3).
func New[K comparable, V any](capacity int) (*Cache[K, V], api.Errno) {
	if capacity < 1 || capacity > api.MaxCache {
		return nil, api.ErrSize
	}
	return &Cache[K, V]{capacity: capacity}, api.OK
}

// Put keeps a value (P3).
func (c *Cache[K, V]) Put(key K, value V) {
	at, there := c.find(key)
	if !there {
		at = c.placeForNew()
	}
	c.use(at, entry[K, V]{key, value})
}

// Get tells a value (P3).
func (c *Cache[K, V]) Get(key K) (V, bool) {
	at, there := c.find(key)
	if !there {
		var none V
		return none, false
	}
	found := c.entries[at]
	c.use(at, found)
	return found.value, true
}

// Keys tells the keys, the one that was used last first (P3).
func (c *Cache[K, V]) Keys() []K {
	keys := make([]K, len(c.entries))
	for i := range c.entries {
		keys[i] = c.entries[i].key
	}
	return keys
}

func (c *Cache[K, V]) find(key K) (int, bool) {
	for i := range c.entries {
		if c.entries[i].key == key {
			return i, true
		}
	}
	return 0, false
}

// placeForNew tells the last place. In a full cache that is the place of the
// key that was used longest ago: it is forgotten by being written over, so
// that nothing of it is kept.
func (c *Cache[K, V]) placeForNew() int {
	if len(c.entries) < c.capacity {
		c.entries = append(c.entries, entry[K, V]{})
	}
	return len(c.entries) - 1
}

// use writes over the entry at a place, and lets the new one stand first.
func (c *Cache[K, V]) use(at int, e entry[K, V]) {
	copy(c.entries[1:at+1], c.entries[:at])
	c.entries[0] = e
}
