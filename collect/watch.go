package collect

import (
	"slices"

	"commonform/api"
	"commonform/heap"
)

// watcher waits for the end of an object.
type watcher struct {
	word heap.Word
	id   int
}

// Watch waits for the end of an object.
func (c *Collector) Watch(w heap.Word, id int) api.Errno {
	switch {
	case c.isNone():
		return api.ErrArg
	case c.heap.Place(w) < 0:
		return heap.ErrWord
	case w == heap.Nil:
		return api.ErrArg
	}
	c.watchers = append(c.watchers, watcher{word: w, id: id})
	return api.OK
}

// follow tells the watchers where their objects are now, or ends them. The objects that were kept are in the order in which they were laid.
func (c *Collector) follow(kept []heap.Word) {
	if len(c.watchers) == 0 {
		return
	}
	moved := map[heap.Word]heap.Word{}
	for i, w := range c.heap.Objects() {
		moved[kept[i]] = w
	}
	var waiting []watcher
	for _, watch := range c.watchers {
		if w, isKept := moved[watch.word]; isKept {
			waiting = append(waiting, watcher{word: w, id: watch.id})
		} else {
			c.ended = append(c.ended, watch.id)
		}
	}
	c.watchers = waiting
}

// Ended returns the watchers whose objects are gone.
func (c *Collector) Ended() []int {
	if c.isNone() {
		return nil
	}
	ended := slices.Clone(c.ended)
	c.ended = nil
	return ended
}

// Watched returns the watchers that wait.
func (c *Collector) Watched() []int {
	if c.isNone() {
		return nil
	}
	var all []int
	for _, watch := range c.watchers {
		all = append(all, watch.id)
	}
	return all
}
