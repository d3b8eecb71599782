package mtree

import "turnkey/api"

// Store loads, saves and drops sectors.
type Store interface {
	Load(at int) ([]byte, api.Errno)
	Save(b []byte) (int, api.Errno)
	Drop(at int) api.Errno
}

// guard is a store that does not panic. A nil pointer in a Store does not equal nil, and panics only when it is used.
type guard struct{ Store }

// Load returns the bytes of a sector. A sector whose loading panics is not loaded: ErrCorrupt, or the store's error.
func (g guard) Load(at int) (b []byte, err api.Errno) {
	defer func() {
		if recover() != nil {
			b, err = nil, api.ErrCorrupt
		}
	}()
	return g.Store.Load(at)
}

// Save returns the number of a sector with these bytes. ErrCorrupt if that panics, or the store's error.
func (g guard) Save(b []byte) (at int, err api.Errno) {
	defer func() {
		if recover() != nil {
			at, err = 0, api.ErrCorrupt
		}
	}()
	return g.Store.Save(b)
}

// Drop drops a sector. ErrCorrupt if that panics, or the store's error.
func (g guard) Drop(at int) (err api.Errno) {
	defer func() {
		if recover() != nil {
			err = api.ErrCorrupt
		}
	}()
	return g.Store.Drop(at)
}

// drop drops sectors that no tree needs: whether the store can do so changes no tree.
func (g guard) drop(at []int) {
	for _, x := range at {
		g.Drop(x)
	}
}
