package dict

import (
	"tympan/api"
	"tympan/heap"
	"tympan/obj"
)

// cell is the cell of a dictionary: its first item counts the pairs, which follow.
type cell struct {
	h     *heap.Heap
	d     api.Object
	pairs int
	room  int // the pairs that fit
}

// open returns the cell of a dictionary that belongs to the heap.
func open(h *heap.Heap, d api.Object) (c cell, e api.Errno) {
	switch {
	case h == nil:
		return c, api.ErrArg
	case d.Kind != api.Dict:
		return c, api.ErrType
	}
	size, e := h.Size(d)
	if e != api.OK {
		return c, e
	}
	count, e := h.Get(d, 0)
	if e != api.OK {
		return c, e
	}
	room := (size - 1) / 2
	// Calls of the heap can change the count: no index may leave the cell then.
	return cell{h, d, min(max(count.N, 0), room), room}, api.OK
}

// openFor returns the cell of a dictionary and the key that o is.
func openFor(h *heap.Heap, d, o api.Object) (c cell, k api.Object, e api.Errno) {
	c, e = open(h, d)
	if e != api.OK {
		return cell{}, k, e
	}
	k, e = Key(h, o)
	if e != api.OK {
		return cell{}, k, e
	}
	return c, k, api.OK
}

// end returns the index after the last pair.
func (c cell) end() int { return 1 + 2*c.pairs }

// find returns the index of the key k. Its value comes right after it.
func (c cell) find(k api.Object) (at int, ok bool) {
	if k.Kind == api.Name {
		at, ok = c.names()[k.S]
	} else {
		at, ok = c.others()[plain(k)]
	}
	return at, ok
}

// names returns the index of each key that is a Name.
// Most keys are, and each search makes its map anew: one of strings is made in half the time.
func (c cell) names() map[string]int {
	m := make(map[string]int, c.pairs)
	for at := 1; at < c.end(); at += 2 {
		if k, e := c.h.Get(c.d, at); e == api.OK && k.Kind == api.Name {
			m[k.S] = at
		}
	}
	return m
}

// others returns the index of each key of another kind, which is plain in the map.
func (c cell) others() map[api.Object]int {
	m := map[api.Object]int{}
	for at := 1; at < c.end(); at += 2 {
		if k, e := c.h.Get(c.d, at); e == api.OK && k.Kind != api.Name {
			m[plain(k)] = at
		}
	}
	return m
}

// plain returns one object for all keys that are the same, so that a map holds them to be equal.
// An Int for which there is no fix is the same as no other number.
func plain(k api.Object) api.Object {
	if v, ok := obj.Num(k); ok {
		return api.Object{Kind: api.Fix, N: v}
	}
	return k
}

// isLocked reports whether the contents are final. The heap tells this only to those that change them,
// so the first item is set to what it is.
func (c cell) isLocked() bool {
	count, e := c.h.Get(c.d, 0)
	return e != api.OK || c.h.Set(c.d, 0, count) != api.OK
}

// add appends a pair to a cell that has room for it.
func (c cell) add(k, v api.Object) {
	c.set(c.end(), k)
	c.set(c.end()+1, v)
	c.count(c.pairs + 1)
}

// remove takes away the pair whose key is at the given index.
func (c cell) remove(at int) {
	for i := at; i < c.end()-2; i++ {
		if x, e := c.h.Get(c.d, i+2); e == api.OK {
			c.set(i, x)
		}
	}
	c.set(c.end()-2, api.Object{Kind: api.Null})
	c.set(c.end()-1, api.Object{Kind: api.Null})
	c.count(c.pairs - 1)
}

func (c cell) count(pairs int) {
	c.set(0, api.Object{Kind: api.Int, N: pairs})
}

// set replaces an item. It can't fail: the cell is not locked, and x may be an item of it.
func (c cell) set(i int, x api.Object) {
	c.h.Set(c.d, i, x)
}
