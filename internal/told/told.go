// Package told has the pixels that steps tell, one step behind the other, with the cache of them.
package told

import (
	"marquetry/api"
	"marquetry/cache"
)

// Told is pixels that steps have told, and what they may tell by.
type Told struct {
	pix   []uint32
	most  int
	cache *cache.Cache // nil, if there is none, as that has no places
}

// New answers no pixels, of which there may be most, with a cache of so many bits, or none of 0.
func New(most, bits int) *Told {
	c, _ := cache.New(bits)
	// Without room ahead: there may be far fewer than most.
	return &Told{most: most, cache: c}
}

// Step adds the pixels that s tells; false, if it is none, or tells more than there may be.
func (t *Told) Step(s api.Token) bool {
	// Each step tells a pixel at least.
	if t.Left() < 1 {
		return false
	}
	switch s.Kind {
	case api.Literal:
		t.add(s.Argb)
		return true
	case api.Copy:
		return t.copy(s.Len, s.Dist)
	case api.Known:
		p, ok := t.cache.Get(s.Index)
		if ok {
			t.add(p)
		}
		return ok
	}
	return false
}

// Left answers how many pixels are not told yet.
func (t *Told) Left() int {
	return t.most - len(t.pix)
}

// Pix answers the pixels that are told; no step may come behind.
func (t *Told) Pix() []uint32 {
	return t.pix
}

func (t *Told) copy(n, dist int) bool {
	if n < 1 || n > min(t.Left(), api.MaxCopy) || dist < 1 || dist > len(t.pix) {
		return false
	}
	// One by one, as the last ones may be copies of the first.
	for range n {
		t.add(t.pix[len(t.pix)-dist])
	}
	return true
}

func (t *Told) add(p uint32) {
	t.pix = append(t.pix, p)
	t.cache.Add(p)
}
