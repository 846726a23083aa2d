package heap

import (
	"tympan/api"
)

// cell holds the items or bytes that objects share.
type cell interface {
	isLocked() bool
	lock()
	// reach returns the first index and the number of the items to which a valid Array, String or Dict refers.
	// It returns false if the object does not belong to this cell.
	reach(o api.Object) (at, n int, ok bool)
	get(i int) api.Object
	// set needs the heap to know which objects may be items.
	set(h *Heap, i int, x api.Object) api.Errno
	// put copies items of a cell of the same kind, which may be this cell.
	put(at int, from cell, start, n int)
	twin() cell
}

// header is what both kinds of cells have in common.
type header struct {
	kind   int // of the objects that refer to the cell
	locked bool
}

func (h *header) isLocked() bool { return h.locked }

func (h *header) lock() { h.locked = true }

// part is reach for the objects that refer to a part of a cell of the given size.
func (h *header) part(o api.Object, size int) (at, n int, ok bool) {
	if o.Kind != h.kind || o.Len > size-o.At {
		return 0, 0, false
	}
	return o.At, o.Len, true
}

// itemCell is the cell of an array or of a dictionary.
type itemCell struct {
	header
	items []api.Object
}

// newItems returns a cell of n items, all Null.
func newItems(kind, n int) *itemCell {
	items := make([]api.Object, n)
	for i := range items {
		items[i].Kind = api.Null
	}
	return &itemCell{header{kind: kind}, items}
}

func (c *itemCell) reach(o api.Object) (at, n int, ok bool) {
	at, n, ok = c.part(o, len(c.items))
	if ok && c.kind == api.Dict {
		// A Dict has no At and Len: it refers to the whole cell.
		n = len(c.items)
	}
	return at, n, ok
}

func (c *itemCell) get(i int) api.Object { return c.items[i] }

func (c *itemCell) set(h *Heap, i int, x api.Object) api.Errno {
	if !h.May(x) {
		return api.ErrArg
	}
	c.items[i] = x
	return api.OK
}

func (c *itemCell) put(at int, from cell, start, n int) {
	if from, ok := from.(*itemCell); ok {
		copy(c.items[at:], from.items[start:start+n])
	}
}

func (c *itemCell) twin() cell {
	return &itemCell{c.header, copyItems(c.items)}
}

func copyItems(l []api.Object) []api.Object {
	return append([]api.Object(nil), l...)
}

// byteCell is the cell of a string.
type byteCell struct {
	header
	bytes []byte
}

func newBytes(b string) *byteCell {
	return &byteCell{header{kind: api.String}, []byte(b)}
}

func (c *byteCell) reach(o api.Object) (at, n int, ok bool) {
	return c.part(o, len(c.bytes))
}

func (c *byteCell) get(i int) api.Object {
	return api.Object{Kind: api.Int, N: int(c.bytes[i])}
}

func (c *byteCell) set(_ *Heap, i int, x api.Object) api.Errno {
	if x.Kind != api.Int {
		return api.ErrType
	}
	if x.N < 0 || x.N > 255 {
		return api.ErrRange
	}
	c.bytes[i] = byte(x.N)
	return api.OK
}

func (c *byteCell) put(at int, from cell, start, n int) {
	if from, ok := from.(*byteCell); ok {
		copy(c.bytes[at:], from.bytes[start:start+n])
	}
}

func (c *byteCell) twin() cell {
	return &byteCell{c.header, append([]byte(nil), c.bytes...)}
}
