package spill

import (
	"bytes"
	"slices"

	"warp/api"
	"warp/cell"
	"warp/octets"
	"warp/pages"
)

// Cursor takes rows from pages.
type Cursor struct {
	store *pages.Store
	ids   []int     // the pages that are not read
	rest  []byte    // what was read and not taken
	left  int       // how many rows were not taken
	e     api.Errno // what is wrong, for good
}

// Next is the next row; false: there is none.
func (c *Cursor) Next() (api.Row, bool, api.Errno) {
	if c == nil {
		return nil, false, api.ErrNone
	}
	if c.left == 0 && c.e == api.OK {
		c.e = c.end()
	}
	if c.left == 0 || c.e != api.OK {
		return nil, false, c.e
	}
	r, e := c.row()
	if e != api.OK {
		c.e = e
		return nil, false, e
	}
	c.left--
	return r, true, api.OK
}

// end is OK if nothing but bytes 0 lies behind the last row.
func (c *Cursor) end() api.Errno {
	if len(c.ids) > 0 || slices.ContainsFunc(c.rest, func(b byte) bool { return b != 0 }) {
		return api.ErrCorrupt
	}
	return api.OK
}

// row takes a row.
func (c *Cursor) row() (api.Row, api.Errno) {
	many, e := c.number()
	if e != api.OK {
		return nil, e
	}
	// No room is made ahead, as bytes may claim any number of values.
	r := api.Row{}
	for range many {
		v, e := c.value()
		if e != api.OK {
			return nil, e
		}
		r = append(r, v)
	}
	return r, api.OK
}

// number takes an unsigned integer.
func (c *Cursor) number() (uint64, api.Errno) {
	if e := c.fill(numberIsCut); e != api.OK {
		return 0, e
	}
	r := octets.New(c.rest)
	n := r.Num()
	if r.Bad() {
		return 0, api.ErrCorrupt
	}
	c.rest = c.rest[len(c.rest)-r.Left():]
	return n, api.OK
}

// value takes a value.
func (c *Cursor) value() (api.Value, api.Errno) {
	if e := c.fill(valueIsCut); e != api.OK {
		return api.Value{}, e
	}
	v, rest, e := cell.Take(c.rest)
	if e != api.OK {
		return api.Value{}, e
	}
	c.rest = rest
	return v, api.OK
}

// fill reads pages as long as what was read is cut off, and no further: a page that is not needed may be spoilt. What is cut off for want of pages is left as it is, since it is no encoding.
func (c *Cursor) fill(isCut func([]byte) bool) api.Errno {
	for len(c.ids) > 0 && isCut(c.rest) {
		b, e := c.store.Read(c.ids[0])
		if e != api.OK {
			return e
		}
		c.rest = append(c.rest, b...)
		c.ids = c.ids[1:]
	}
	return api.OK
}

// The layers below answer alike for what is cut off and for what is wrong, which no further page mends. The following functions tell them apart: b is cut off if it does not begin with an encoding, but would with some more bytes behind it.

// longNumber is how much greater the first byte of an integer of several bytes is than the number of bytes behind it.
const longNumber = 247

// numberIsCut tells this of unsigned integers.
func numberIsCut(b []byte) bool {
	if len(b) < 2 {
		return len(b) == 0 || b[0] > longNumber
	}
	// An integer of several bytes that begins with 0 has a shorter encoding.
	return len(b) <= int(b[0])-longNumber && b[1] != 0
}

// valueIsCut tells this of values.
func valueIsCut(b []byte) bool {
	if len(b) == 0 {
		return true
	}
	switch b[0] {
	case api.Bool:
		return len(b) == 1
	case api.Int:
		return numberIsCut(b[1:])
	case api.Text:
		return textIsCut(b[1:])
	}
	return false
}

// textIsCut tells this of strings.
func textIsCut(b []byte) bool {
	if numberIsCut(b) {
		// Encodings are in the order of the integers, so that these may still become those of a length.
		return bytes.Compare(b, octets.Num(nil, api.MaxText)) <= 0
	}
	r := octets.New(b)
	n := r.Num()
	return n <= api.MaxText && n > uint64(r.Left())
}
