package mtree

import (
	"bytes"
	"cmp"
	"slices"

	"turnkey/api"
)

// change is what is done to one tree of a grove, as one operation.
// Each sector of the new tree is saved once, when all below it are, so that no more space is needed than the result has.
type change struct {
	*Grove
	cut   int        // the blocks from this number on are removed,
	turns []api.Turn // except for what is done with these, which are in order, each block once
	saved []int      // new sectors, to be dropped after an error
	left  []int      // old ones that the new tree does not have, to be dropped when it is complete
}

// areTurns reports whether each of xs has the number of a block, and a block or none.
func areTurns(xs []api.Turn) bool {
	for _, x := range xs {
		if x.I < 0 || x.I >= Room(api.MaxDeep) || len(x.B) != 0 && len(x.B) != api.Sector {
			return false
		}
	}
	return true
}

// byNumber returns xs in the order of their numbers, of several with the same number only the last one.
func byNumber(xs []api.Turn) []api.Turn {
	turns := slices.Clone(xs)
	slices.Reverse(turns)
	slices.SortStableFunc(turns, func(a, b api.Turn) int { return cmp.Compare(a.I, b.I) })
	return slices.CompactFunc(turns, func(a, b api.Turn) bool { return a.I == b.I })
}

// deepEnough returns the Deep of a tree when each of xs was put into it. What is removed deepens nothing.
func deepEnough(deep int, xs []api.Turn) int {
	for _, x := range xs {
		for len(x.B) > 0 && x.I >= Room(deep) {
			deep++
		}
	}
	return deep
}

// tree returns what the change makes of t, with that Deep. ErrOff, ErrCorrupt, the errors of the store's Save.
func (c *change) tree(t api.Tree, deep int) (api.Tree, api.Errno) {
	p := top(t)
	root, err := c.renew(p)
	for err == api.OK && p.level < deep {
		p = place{level: p.level + 1}
		root, err = c.deepen(root, p)
	}
	if err != api.OK {
		return api.Tree{}, err
	}
	return api.Tree{Root: root, Deep: deep}, api.OK
}

// deepen returns the pointer to pointers at p, where there were none: the first one is the root so far. Errors are as for tree.
func (c *change) deepen(root api.Ptr, p place) (api.Ptr, api.Errno) {
	ps := pointers{root}
	if err := c.renewAll(ps[1:], p, 1); err != api.OK {
		return api.Ptr{}, err
	}
	return c.savePointers(p, ps)
}

// renew returns the pointer to what the change makes of the tree at p. Errors are as for tree.
func (c *change) renew(p place) (api.Ptr, api.Errno) {
	turns := c.within(p)
	isCut := p.Sector != 0 && p.end() > c.cut
	switch {
	case len(turns) == 0 && !isCut:
		return p.Ptr, api.OK
	case p.level > 0:
		return c.renewPointers(p)
	}
	c.leave(p)
	if len(turns) == 0 || len(turns[0].B) == 0 {
		return api.Ptr{}, api.OK
	}
	return c.save(p, turns[0].B)
}

// renewPointers is renew where there are pointers.
func (c *change) renewPointers(p place) (api.Ptr, api.Errno) {
	old, err := c.pointers(p)
	if err != api.OK {
		return api.Ptr{}, err
	}
	now := old
	if err := c.renewAll(now[:], p, 0); err != api.OK {
		return api.Ptr{}, err
	}
	if now == old {
		return p.Ptr, api.OK
	}
	c.leave(p)
	return c.savePointers(p, now)
}

// renewAll renews these pointers at p, of which the first one has that index. Errors are as for tree.
func (c *change) renewAll(ps []api.Ptr, p place, index int) api.Errno {
	for i := range ps {
		to, err := c.renew(p.child(index+i, ps[i]))
		if err != api.OK {
			return err
		}
		ps[i] = to
	}
	return api.OK
}

// within returns the turns of blocks below p.
func (c *change) within(p place) []api.Turn { return c.turns[c.before(p.first):c.before(p.end())] }

// before returns how many turns are of blocks before that one.
func (c *change) before(block int) int {
	n, _ := slices.BinarySearchFunc(c.turns, block, func(x api.Turn, block int) int { return cmp.Compare(x.I, block) })
	return n
}

// leave notes that the sector of p, if there is one, is not in the new tree.
func (c *change) leave(p place) {
	if p.Sector != 0 {
		c.left = append(c.left, p.Sector)
	}
}

// savePointers returns the pointer to a new sector of these pointers at p; to nothing, if they all point to nothing.
func (c *change) savePointers(p place, ps pointers) (api.Ptr, api.Errno) {
	if ps == (pointers{}) {
		return api.Ptr{}, api.OK
	}
	return c.save(p, ps.pack())
}

// save returns the pointer to a new sector with these bytes at p. ErrCorrupt, the errors of the store's Save.
func (c *change) save(p place, b []byte) (api.Ptr, api.Errno) {
	// The store may go on using what it is given, and the caller what he gave.
	at, err := c.store.Save(bytes.Clone(b))
	if err != api.OK {
		return api.Ptr{}, err
	}
	c.saved = append(c.saved, at)
	if at < 1 || at > maxSector {
		// No pointer can have this number: the block would be lost.
		return api.Ptr{}, api.ErrCorrupt
	}
	return api.Ptr{Sector: at, Mac: c.mac(p, b)}, api.OK
}
