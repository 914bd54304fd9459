package collect

import (
	"math/rand"
	"slices"
	"strconv"
	"testing"

	"commonform/api"
	"commonform/heap"
)

// want reports an error that is not the one that is wanted.
func want(t *testing.T, what string, e, wanted api.Errno) {
	t.Helper()
	if e != wanted {
		t.Errorf("%s: %v; want %v", what, e, wanted)
	}
}

// start returns a heap and a collector of it.
func start(t *testing.T, limit, young int) (*heap.Heap, *Collector) {
	t.Helper()
	h, e := heap.New(limit, young)
	want(t, "New of the heap", e, api.OK)
	c, e := New(h)
	want(t, "New", e, api.OK)
	return h, c
}

// object makes an object with some fields.
func object(t *testing.T, h *heap.Heap, kind int, fields ...heap.Word) heap.Word {
	t.Helper()
	w, e := h.New(kind, len(fields))
	if e != api.OK {
		t.Fatalf("New(%d, %d): %v", kind, len(fields), e)
	}
	for i, x := range fields {
		want(t, "Set", h.Set(w, i, x), api.OK)
	}
	return w
}

func at(t *testing.T, h *heap.Heap, root int) heap.Word {
	t.Helper()
	w, e := h.At(root)
	want(t, "At", e, api.OK)
	return w
}

func get(t *testing.T, h *heap.Heap, w heap.Word, i int) heap.Word {
	t.Helper()
	x, e := h.Get(w, i)
	want(t, "Get", e, api.OK)
	return x
}

// record is what there is of an object, with other objects by their names.
type record struct {
	kind   int
	bytes  string
	fields []string // nil for bytes
}

// history follows the objects of a heap by names that collections do not change.
type history struct {
	t        *testing.T
	h        *heap.Heap
	c        *Collector
	names    []string // of the objects, by their places
	aged     map[string]bool
	watchers [][2]string // the object, and the id
	ended    []string
	made     int
}

func follow(t *testing.T, limit, young int) *history {
	h, c := start(t, limit, young)
	return &history{t: t, h: h, c: c, names: []string{"nil"}, aged: map[string]bool{}}
}

// nameOf returns a word as a text: the name of an object, or its digits.
func (y *history) nameOf(w heap.Word) string {
	if i := slices.Index(y.h.Objects(), w); i >= 0 {
		return y.names[i]
	}
	return strconv.FormatUint(uint64(w), 10)
}

func (y *history) record(w heap.Word) record {
	x := record{kind: y.h.Kind(w)}
	if bytes, e := y.h.Bytes(w); e == api.OK {
		x.bytes = bytes
		return x
	}
	x.fields = []string{}
	for i := range y.h.Len(w) {
		x.fields = append(x.fields, y.nameOf(get(y.t, y.h, w, i)))
	}
	return x
}

// records returns all objects, by their names.
func (y *history) records() map[string]record {
	all := map[string]record{}
	for i, w := range y.h.Objects() {
		all[y.names[i]] = y.record(w)
	}
	return all
}

func (y *history) roots() []string {
	var all []string
	for _, r := range y.h.Roots() {
		all = append(all, y.nameOf(at(y.t, y.h, r)))
	}
	return all
}

// isPair tells ephemerons that have a key and a value.
func (x record) isPair() bool { return x.kind == heap.KindEphemeron && len(x.fields) >= 2 }

// strong returns what an object holds all by itself.
func (x record) strong() []string {
	switch {
	case x.kind == heap.KindWeak:
		return nil
	case x.isPair():
		return x.fields[2:]
	}
	return x.fields
}

// reached returns the names of all that is reached from some: as long as something is new, all is looked at again.
func reached(all map[string]record, from []string) map[string]bool {
	met := map[string]bool{}
	changed := true
	meet := func(name string) {
		if _, isObject := all[name]; isObject && !met[name] {
			met[name] = true
			changed = true
		}
	}
	for _, name := range from {
		meet(name)
	}
	for changed {
		changed = false
		for name, x := range all {
			if !met[name] {
				continue
			}
			for _, part := range x.strong() {
				meet(part)
			}
			if x.isPair() {
				if _, isObject := all[x.fields[0]]; !isObject || met[x.fields[0]] {
					meet(x.fields[1])
				}
			}
		}
	}
	return met
}

// collect collects, and fails if anything is other than the chapter says.
func (y *history) collect(major bool) {
	y.t.Helper()
	all, roots, before := y.records(), y.roots(), y.h.Used()
	oldCount := 0
	for _, w := range y.h.Objects() {
		if y.h.Place(w) < y.h.Old() {
			oldCount++
		}
	}
	from := append([]string{"nil"}, roots...)
	if !major {
		from = append(from, y.names[:oldCount]...)
	}
	met := reached(all, from)
	if major {
		y.compareLive(met)
	}
	var old, promoted, young []string
	for i, name := range y.names {
		switch {
		case !met[name]:
		case i < oldCount:
			old = append(old, name)
		case y.aged[name]:
			promoted = append(promoted, name)
		default:
			young = append(young, name)
		}
	}
	lost := lose(all, met)
	y.lookAtWatchers(met)
	report, e := y.c.Minor, api.OK
	if major {
		report = y.c.Major
	}
	r, e := report()
	y.names, y.aged = slices.Concat(old, promoted, young), map[string]bool{}
	for _, name := range young {
		y.aged[name] = true
	}
	wanted := Report{Major: major, Before: before, After: y.h.Used(), Promoted: len(promoted), Lost: lost}
	if e != api.OK || r != wanted || len(y.h.Objects()) != len(y.names) {
		y.t.Fatalf("Report %+v, %v, and %d objects; want %+v, and %v", r, e, len(y.h.Objects()), wanted, y.names)
	}
	if oldWords := sizeOf(all, old) + sizeOf(all, promoted); y.h.Old() != oldWords || y.h.Used() != oldWords+sizeOf(all, young) {
		y.t.Fatalf("Old %d, Used %d; want %d, and %v are young", y.h.Old(), y.h.Used(), oldWords, young)
	}
	y.compare(all, roots, met)
}

func sizeOf(all map[string]record, names []string) int {
	sum := 0
	for _, name := range names {
		sum += 1 + len(all[name].fields) + (len(all[name].bytes)+7)/8
	}
	return sum
}

// lose makes the weak references and keys Unbound that are lost, and counts them.
func lose(all map[string]record, met map[string]bool) int {
	lost := 0
	for name, x := range all {
		if !met[name] || len(x.fields) == 0 {
			continue
		}
		_, isObject := all[x.fields[0]]
		isLost := isObject && !met[x.fields[0]]
		if isLost && (x.kind == heap.KindWeak || x.isPair()) {
			lost++
		}
		if isLost && x.isPair() {
			x.fields[1] = "2"
		}
	}
	return lost
}

// compare fails if not all objects that are kept, and all roots, have what they had.
func (y *history) compare(all map[string]record, roots []string, met map[string]bool) {
	y.t.Helper()
	rename := func(l []string) {
		for i, name := range l {
			if _, isObject := all[name]; isObject && !met[name] {
				l[i] = "2"
			}
		}
	}
	for name, x := range y.records() {
		wanted := all[name]
		rename(wanted.fields)
		if x.kind != wanted.kind || x.bytes != wanted.bytes || !slices.Equal(x.fields, wanted.fields) {
			y.t.Fatalf("%s is %v; want %v", name, x, wanted)
		}
	}
	rename(roots)
	if l := y.roots(); !slices.Equal(l, roots) {
		y.t.Fatalf("the roots have %v; want %v", l, roots)
	}
	var ended, watched []string
	for _, id := range y.c.Ended() {
		ended = append(ended, strconv.Itoa(id))
	}
	for _, id := range y.c.Watched() {
		watched = append(watched, strconv.Itoa(id))
	}
	var waiting []string
	for _, x := range y.watchers {
		waiting = append(waiting, x[1])
	}
	if !slices.Equal(ended, y.ended) || !slices.Equal(watched, waiting) {
		y.t.Fatalf("Ended %v, Watched %v; want %v, %v", ended, watched, y.ended, waiting)
	}
	y.ended = nil
}

func (y *history) lookAtWatchers(met map[string]bool) {
	var waiting [][2]string
	for _, x := range y.watchers {
		if met[x[0]] {
			waiting = append(waiting, x)
		} else {
			y.ended = append(y.ended, x[1])
		}
	}
	y.watchers = waiting
}

func (y *history) compareLive(met map[string]bool) {
	y.t.Helper()
	var live []string
	for _, w := range y.c.Live() {
		live = append(live, y.nameOf(w))
	}
	wanted := slices.DeleteFunc(slices.Clone(y.names), func(name string) bool { return !met[name] })
	if !slices.Equal(live, wanted) {
		y.t.Fatalf("Live = %v; want %v", live, wanted)
	}
}

// step does something by chance.
func (y *history) step(r *rand.Rand) {
	y.t.Helper()
	l := y.h.Objects()
	word := func() heap.Word {
		if r.Intn(5) == 0 {
			return []heap.Word{0, 8, 777, heap.Unbound}[r.Intn(4)]
		}
		return l[r.Intn(len(l))]
	}
	switch r.Intn(16) {
	case 0, 1, 2, 3:
		kind := []int{heap.KindCons, heap.KindWeak, heap.KindEphemeron, heap.KindVector, heap.KindEphemeron}[r.Intn(5)]
		w, e := h1(r, y.h, kind)
		if e != api.OK {
			y.collect(true)
			return
		}
		y.made++
		y.names = append(y.names, "x"+strconv.Itoa(y.made))
		for i := range y.h.Len(w) {
			y.h.Set(w, i, word())
		}
	case 4, 5, 6, 7, 8:
		w := l[r.Intn(len(l))]
		if n := y.h.Len(w); n > 0 {
			y.h.Set(w, r.Intn(n), word())
		}
	case 9, 10:
		if roots := y.h.Roots(); len(roots) < 6 {
			y.h.Root(word())
		} else {
			y.h.Put(roots[r.Intn(len(roots))], word())
		}
	case 11:
		if roots := y.h.Roots(); len(roots) > 0 {
			y.h.Drop(roots[r.Intn(len(roots))])
		}
	case 12:
		w := l[r.Intn(len(l))]
		if e := y.c.Watch(w, y.made); w == heap.Nil {
			want(y.t, "Watch of NIL", e, api.ErrArg)
		} else {
			want(y.t, "Watch", e, api.OK)
			y.watchers = append(y.watchers, [2]string{y.nameOf(w), strconv.Itoa(y.made)})
		}
	case 13, 14:
		y.collect(false)
	case 15:
		y.collect(true)
	}
}

// h1 makes an object with fields or with bytes.
func h1(r *rand.Rand, h *heap.Heap, kind int) (heap.Word, api.Errno) {
	if r.Intn(6) == 0 {
		return h.Raw(kind, "0123456789"[:r.Intn(10)])
	}
	return h.New(kind, r.Intn(5))
}
