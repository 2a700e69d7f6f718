// Package heap: who goes first. See doc/01-heap.md.
package heap

import (
	"slices"

	"watchbill/api"
)

const mostIDs = 256

type entry struct {
	id   int
	prio int
	seq  int64
}

// Heap keeps ids so that the one that goes first is at hand.
type Heap struct {
	// A binary heap: none goes ahead of the one above it, at (place-1)/2.
	row []entry
	// By id, its place in row plus 1, so that 0 tells that it is not there.
	at []int
}

// New makes a heap, with nobody in it, for the ids 0 to most less 1.
func New(most int) (*Heap, api.Errno) {
	if most < 1 || most > mostIDs {
		return nil, api.ErrArg
	}
	return &Heap{at: make([]int, most)}, api.OK
}

// Put lets id in.
func (h *Heap) Put(id, prio int, seq int64) api.Errno {
	if !h.known(id) {
		return api.ErrArg
	}
	if h.Has(id) {
		return api.ErrTwice
	}
	h.row = append(h.row, entry{id, prio, seq})
	h.at[id] = len(h.row)
	h.rise(len(h.row) - 1)
	return api.OK
}

// Set gives id another prio; its seq stays.
func (h *Heap) Set(id, prio int) api.Errno {
	place, e := h.find(id)
	if e != api.OK {
		return e
	}
	h.row[place].prio = prio
	h.settle(place)
	return api.OK
}

// Remove lets id out.
func (h *Heap) Remove(id int) api.Errno {
	place, e := h.find(id)
	if e != api.OK {
		return e
	}
	last := len(h.row) - 1
	h.swap(place, last)
	h.row = h.row[:last]
	h.at[id] = 0
	if place < last {
		h.settle(place)
	}
	return api.OK
}

// Top tells who goes first; false: nobody is there.
func (h *Heap) Top() (int, bool) {
	if len(h.row) == 0 {
		return 0, false
	}
	return h.row[0].id, true
}

// Has tells whether id is there.
func (h *Heap) Has(id int) bool {
	return h.known(id) && h.at[id] != 0
}

// Len tells how many are there.
func (h *Heap) Len() int { return len(h.row) }

// Order tells all that are there, the one that goes first ahead.
func (h *Heap) Order() []int {
	rest := h.Twin()
	order := make([]int, 0, rest.Len())
drain:
	for {
		id, ok := rest.Top()
		if !ok {
			break drain
		}
		order = append(order, id)
		rest.Remove(id)
	}
	return order
}

// Twin makes another heap that tells all that this one tells.
func (h *Heap) Twin() *Heap {
	return &Heap{row: slices.Clone(h.row), at: slices.Clone(h.at)}
}

func (h *Heap) known(id int) bool {
	return id >= 0 && id < len(h.at)
}

func (h *Heap) find(id int) (int, api.Errno) {
	if !h.known(id) {
		return 0, api.ErrArg
	}
	if !h.Has(id) {
		return 0, api.ErrEmpty
	}
	return h.at[id] - 1, api.OK
}

func (h *Heap) swap(a, b int) {
	h.row[a], h.row[b] = h.row[b], h.row[a]
	h.at[h.row[a].id] = a + 1
	h.at[h.row[b].id] = b + 1
}

// settle moves either way; where rise has moved the entry, the one that came
// down into its place goes ahead of all below it, and sink leaves it there.
func (h *Heap) settle(place int) {
	h.rise(place)
	h.sink(place)
}

func (h *Heap) rise(place int) {
climb:
	for place > 0 {
		above := (place - 1) / 2
		if !h.row[place].ahead(h.row[above]) {
			break climb
		}
		h.swap(place, above)
		place = above
	}
}

func (h *Heap) sink(place int) {
fall:
	for {
		first := h.firstOf(place)
		if first == place {
			break fall
		}
		h.swap(place, first)
		place = first
	}
}

// firstOf tells the place of the one that goes first, of that at place and
// the two below it.
func (h *Heap) firstOf(place int) int {
	first := place
pair:
	for below := 2*place + 1; below <= 2*place+2; below++ {
		if below >= len(h.row) {
			break pair
		}
		if h.row[below].ahead(h.row[first]) {
			first = below
		}
	}
	return first
}

// ahead compares and never subtracts: a difference of two numbers may wrap.
func (x entry) ahead(y entry) bool {
	if x.prio != y.prio {
		return x.prio > y.prio
	}
	if x.seq != y.seq {
		return x.seq < y.seq
	}
	return x.id < y.id
}
