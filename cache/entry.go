package cache

import (
	"iter"
)

// entry is what stands in a place. The entries stand in a ring about one that is none: in order behind it, and it behind the last one.
type entry[K comparable, V any] struct {
	key           K
	value         V
	dirty         bool
	pins          int
	before, after *entry[K, V]
}

// newRing is a ring without entries.
func newRing[K comparable, V any]() *entry[K, V] {
	r := new(entry[K, V])
	r.before, r.after = r, r
	return r
}

// link lets e stand last in a ring.
func (e *entry[K, V]) link(ring *entry[K, V]) {
	last := ring.before
	e.before, e.after = last, ring
	last.after, ring.before = e, e
}

// unlink takes e out of its ring.
func (e *entry[K, V]) unlink() {
	e.before.after, e.after.before = e.after, e.before
}

// mayGo says whether e may make place for another one.
func (e *entry[K, V]) mayGo() bool { return !e.dirty && e.pins == 0 }

// isFindable says whether a key is equal to itself. One that isn't (a float that is no number) has no entry that could be found, nor has one that can't be asked: where K is an interface, == panics at slices, say.
func isFindable[K comparable](k K) (is bool) {
	defer func() {
		if recover() != nil {
			is = false
		}
	}()
	return k == k
}

// find is the entry of a key, if it has one.
func (c *Cache[K, V]) find(k K) *entry[K, V] {
	if c == nil || !isFindable(k) {
		return nil
	}
	return c.entries[k]
}

// use makes e the one that was used last.
func (c *Cache[K, V]) use(e *entry[K, V]) {
	e.unlink()
	e.link(c.ring)
}

// add is a new entry.
func (c *Cache[K, V]) add(k K) *entry[K, V] {
	e := &entry[K, V]{key: k}
	// The map couldn't give up what it doesn't find again: that stands in the ring alone.
	if isFindable(k) {
		c.entries[k] = e
	}
	e.link(c.ring)
	c.count++
	return e
}

// take takes an entry out.
func (c *Cache[K, V]) take(e *entry[K, V]) {
	if isFindable(e.key) {
		delete(c.entries, e.key)
	}
	e.unlink()
	c.count--
}

// makePlace takes the first entry out that may go, if there is one.
func (c *Cache[K, V]) makePlace() bool {
	for e := range c.inOrder() {
		if e.mayGo() {
			c.take(e)
			return true
		}
	}
	return false
}

// inOrder is all entries, in order.
func (c *Cache[K, V]) inOrder() iter.Seq[*entry[K, V]] {
	return func(yield func(*entry[K, V]) bool) {
		if c == nil || c.ring == nil {
			return
		}
		for e := c.ring.after; e != c.ring && yield(e); e = e.after {
		}
	}
}
