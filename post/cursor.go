package post

import (
	"catchword/api"
	"catchword/vint"
)

// Cursor goes through hits, block by block.
type Cursor struct {
	Skips  int         // blocks that were passed over
	blocks vint.Reader // the blocks that it hasn't come to
	behind int         // how many hits these have
	last   int         // the last document of the block that it came to last
	block  vint.Reader // what it hasn't looked at of that block
	here   int         // how many hits that has
	doc    int         // the document ahead of these
}

// Open is a cursor ahead of all hits.
func Open(b []byte) *Cursor {
	c := &Cursor{blocks: *vint.Read(b)}
	c.behind = c.blocks.Num(api.MaxDocs)
	return c
}

// Next is the next hit.
func (c *Cursor) Next() (Hit, bool) { return c.Seek(0) }

// Seek is the next hit of a document, or of one behind it.
func (c *Cursor) Seek(doc int) (Hit, bool) {
	if c == nil {
		return Hit{}, false
	}
	for c.here > 0 || c.enter(doc) {
		if h, ok := c.look(); ok && h.Doc >= doc {
			return h, true
		}
	}
	return Hit{}, false
}

// enter comes to the next block with a document that isn't below one, past all others; false: there is none.
func (c *Cursor) enter(doc int) bool {
	for c.behind > 0 {
		ahead, size := c.last, min(Block, c.behind)
		c.last += c.blocks.Num(api.MaxDocs)
		block := c.blocks.Text(c.blocks.Left())
		if c.blocks.Err() != api.OK { // which stays, so that there is none for ever
			return false
		}
		c.behind -= size
		if c.last >= doc {
			c.block, c.here, c.doc = *vint.Read([]byte(block)), size, ahead
			return true
		}
		c.Skips++
	}
	return false
}

// look is the next hit of the block that the cursor is in; false: its bytes are no hit's, and all is passed over.
func (c *Cursor) look() (Hit, bool) {
	c.here--
	c.doc += c.block.Num(api.MaxDocs)
	h := Hit{Doc: c.doc}
	place := 0
	for range c.block.Num(api.MaxText) {
		place += c.block.Num(api.MaxText)
		if c.block.Err() != api.OK {
			break
		}
		h.At = append(h.At, place)
	}
	if c.block.Err() != api.OK {
		c.here, c.behind = 0, 0
		return Hit{}, false
	}
	return h, true
}
