package array

import (
	"math/rand"
	"slices"
	"testing"

	"commonform/api"
)

// model is a room as simple as possible: the elements of each array by its number and the index.
type model struct {
	arrays []Array
	own    map[[2]int]string
}

func (m *model) size(dims []int) int {
	n := 1
	for _, d := range dims {
		n *= d
	}
	return n
}

func (m *model) place(a, i int) [2]int {
	for m.arrays[a].Target >= 0 {
		a, i = m.arrays[a].Target, i+m.arrays[a].Offset
	}
	return [2]int{a, i}
}

func (m *model) get(a, i int) string { return m.own[m.place(a, i)] }

// all returns the elements of an array.
func (m *model) all(a int) []string {
	var l []string
	for i := range m.size(m.arrays[a].Dims) {
		l = append(l, m.get(a, i))
	}
	return l
}

// splits returns subscripts by dividing from the last dimension on.
func splits(dims []int, i int) []int {
	at := make([]int, len(dims))
	for k := len(dims) - 1; k >= 0; k-- {
		at[k], i = i%dims[k], i/dims[k]
	}
	return at
}

// first returns the first error whose condition holds.
func first(l ...any) api.Errno {
	for i := 0; i < len(l); i += 2 {
		if l[i].(func() bool)() {
			return l[i+1].(api.Errno)
		}
	}
	return api.OK
}

func (m *model) badDims(dims []int) func() bool {
	return func() bool { return slices.ContainsFunc(dims, func(d int) bool { return d < 0 }) }
}

// unfit reports whether something that is displaced to an array does not fit, if it has other dimensions.
func (m *model) unfit(a int, dims []int) func() bool {
	return func() bool {
		for _, other := range m.arrays {
			if other.Target == a && other.Offset+m.size(other.Dims) > m.size(dims) {
				return true
			}
		}
		return false
	}
}

func (m *model) adjust(a int, dims []int, fill int, x string) api.Errno {
	old := m.arrays[a]
	next := fill
	if fill == -2 {
		next = old.Fill
	}
	e := first(
		func() bool { return !old.Adjustable }, api.ErrArg,
		m.badDims(dims), api.ErrRange,
		func() bool { return len(dims) != len(old.Dims) }, ErrRank,
		func() bool { return old.Fill < 0 && fill != -1 && fill != -2 || old.Fill >= 0 && fill == -1 }, ErrFill,
		func() bool { return fill < -2 || next > -1 && next > dims[0] }, api.ErrRange,
		func() bool { return old.Bits && x != "0" && x != "1" }, ErrBits,
		m.unfit(a, dims), api.ErrSize)
	if e != api.OK {
		return e
	}
	elements := m.all(a)
	old.Target, old.Offset, old.Fill = -1, 0, next
	before := old.Dims
	old.Dims = dims
	m.arrays[a] = old
	for i := range m.size(dims) {
		m.own[[2]int{a, i}] = x
		at := splits(dims, i)
		for k := range elements {
			if slices.Equal(splits(before, k), at) {
				m.own[[2]int{a, i}] = elements[k]
			}
		}
	}
	return api.OK
}

func (m *model) displace(a int, dims []int, target, offset int) api.Errno {
	old := m.arrays[a]
	e := first(
		func() bool { return !old.Adjustable }, api.ErrArg,
		m.badDims(dims), api.ErrRange,
		func() bool { return len(dims) != len(old.Dims) }, ErrRank,
		func() bool { return target < 0 || target >= len(m.arrays) }, api.ErrNone,
		func() bool {
			for b := target; b >= 0; b = m.arrays[b].Target {
				if b == a {
					return true
				}
			}
			return false
		}, api.ErrOrder,
		func() bool { return m.arrays[target].Bits != old.Bits }, ErrBits,
		func() bool { return offset < 0 || offset+m.size(dims) > m.size(m.arrays[target].Dims) }, api.ErrRange,
		func() bool { return old.Fill >= 0 && old.Fill > dims[0] }, api.ErrRange,
		m.unfit(a, dims), api.ErrSize)
	if e == api.OK {
		old.Dims, old.Target, old.Offset = dims, target, offset
		m.arrays[a] = old
	}
	return e
}

func (m *model) push(a int, x string, extend int) (int, api.Errno) {
	v := m.arrays[a]
	e := first(
		func() bool { return v.Fill < 0 }, ErrFill,
		func() bool { return v.Bits && x != "0" && x != "1" }, ErrBits,
		func() bool { return v.Fill == v.Dims[0] && (!v.Adjustable || extend == 0) }, api.ErrFull)
	if e == api.OK && v.Fill == v.Dims[0] {
		e = m.adjust(a, []int{v.Dims[0] + extend}, -2, x)
	}
	if e != api.OK {
		return 0, e
	}
	m.own[m.place(a, v.Fill)] = x
	m.arrays[a].Fill++
	return v.Fill, api.OK
}

// P11.1, P11.3: whatever is done with a room, all elements are those of the model; and two elements are the same one exactly if Where says so.
func TestRoomsLikeTheModel(t *testing.T) {
	for seed := range int64(400) {
		r := rand.New(rand.NewSource(seed))
		real, m := NewRoom(), &model{own: map[[2]int]string{}}
		for range 60 {
			step(t, r, real, m)
		}
		compareRooms(t, seed, real, m)
	}
}

func someDims(r *rand.Rand) []int {
	var dims []int
	for range []int{1, 1, 1, 0, 2, 2, 3}[r.Intn(7)] {
		dims = append(dims, r.Intn(5))
	}
	if r.Intn(30) == 0 {
		dims = append(dims, -1)
	}
	return dims
}

// step does something by chance, in the room and in the model.
func step(t *testing.T, r *rand.Rand, real *Room, m *model) {
	t.Helper()
	x := num(r.Intn(3))
	if len(m.arrays) < 3 || len(m.arrays) < 12 && r.Intn(4) == 0 {
		makeOne(t, r, real, m)
		return
	}
	a := r.Intn(len(m.arrays))
	dims := someDims(r)
	if r.Intn(2) == 0 {
		dims = slices.Clone(m.arrays[a].Dims)
		for i := range dims {
			dims[i] = max(0, dims[i]+r.Intn(3)-1)
		}
	}
	got, want := api.OK, api.OK
	what := ""
	switch r.Intn(6) {
	case 0:
		fill := r.Intn(8) - 3
		what, got, want = "Adjust", real.Adjust(a, dims, fill, x), m.adjust(a, dims, fill, x.Text)
	case 1:
		target, offset := r.Intn(len(m.arrays)+2)-1, r.Intn(4)-1
		what, got, want = "Displace", real.Displace(a, dims, target, offset), m.displace(a, dims, target, offset)
	case 2:
		extend := r.Intn(4) - 1
		n, e := real.Push(a, x, extend)
		k, f := m.push(a, x.Text, extend)
		what, got, want = "Push", e, f
		if n != k {
			t.Fatalf("Push = %d, expected %d", n, k)
		}
	case 3:
		i := r.Intn(8) - 1
		what, got = "Set", real.Set(a, i, x)
		want = first(
			func() bool { return i < 0 || i >= m.size(m.arrays[a].Dims) }, api.ErrRange,
			func() bool { return m.arrays[a].Bits && x.Text == "2" }, ErrBits)
		if want == api.OK {
			m.own[m.place(a, i)] = x.Text
		}
	case 4:
		what = "SetFill"
		fill := r.Intn(6) - 1
		got = real.SetFill(a, fill)
		want = first(
			func() bool { return m.arrays[a].Fill < 0 }, ErrFill,
			func() bool { return fill < 0 || fill > m.arrays[a].Dims[0] }, api.ErrRange)
		if want == api.OK {
			m.arrays[a].Fill = fill
		}
	case 5:
		what = "Boole"
		op, b, into := r.Intn(16), r.Intn(len(m.arrays)), r.Intn(len(m.arrays))
		got, want = real.Boole(op, a, b, into), m.boole(op, a, b, into)
	}
	if got != want {
		t.Fatalf("%s of %d (%v): %v, expected %v", what, a, m.arrays[a], got, want)
	}
}

func (m *model) boole(op, a, b, into int) api.Errno {
	x, y, z := m.arrays[a], m.arrays[b], m.arrays[into]
	e := first(
		func() bool { return !x.Bits || !y.Bits || !z.Bits }, ErrBits,
		func() bool { return !slices.Equal(x.Dims, y.Dims) || !slices.Equal(y.Dims, z.Dims) }, ErrRank)
	for i := range m.size(x.Dims) {
		if e == api.OK {
			place := 0
			if m.get(a, i) == "1" {
				place = 2
			}
			if m.get(b, i) == "1" {
				place++
			}
			m.own[m.place(into, i)] = num(op >> place & 1).Text
		}
	}
	return e
}

func makeOne(t *testing.T, r *rand.Rand, real *Room, m *model) {
	t.Helper()
	a := Array{Dims: slices.DeleteFunc(someDims(r), func(d int) bool { return d < 0 }), Fill: -1, Target: -1, Adjustable: r.Intn(4) > 0, Bits: r.Intn(3) == 0}
	if len(a.Dims) == 1 && r.Intn(2) == 0 {
		a.Fill = r.Intn(a.Dims[0] + 1)
	}
	if r.Intn(3) == 0 {
		a.Target, a.Offset = r.Intn(len(m.arrays)+1), r.Intn(3)
	}
	want := api.OK
	if a.Target >= 0 {
		want = first(
			func() bool { return a.Target >= len(m.arrays) }, api.ErrNone,
			func() bool { return m.arrays[a.Target].Bits != a.Bits }, ErrBits,
			func() bool { return a.Offset+m.size(a.Dims) > m.size(m.arrays[a.Target].Dims) }, api.ErrRange)
	}
	n, e := real.Make(a, num(1))
	if e != want || e == api.OK && n != len(m.arrays) {
		t.Fatalf("Make(%v) = %d, %v, expected %v", a, n, e, want)
	}
	if e != api.OK {
		return
	}
	m.arrays = append(m.arrays, a)
	for i := range m.size(a.Dims) {
		if a.Target < 0 {
			m.own[[2]int{n, i}] = "1"
		}
	}
}

func compareRooms(t *testing.T, seed int64, real *Room, m *model) {
	t.Helper()
	for a, lies := range m.arrays {
		of, e := real.Of(a)
		if e != api.OK || !slices.Equal(of.Dims, lies.Dims) || of.Fill != lies.Fill || of.Target != lies.Target || of.Offset != lies.Offset {
			t.Fatalf("room %d: the array %d is %v, expected %v", seed, a, of, lies)
		}
		want := m.all(a)
		for i, text := range want {
			x, e := real.Get(a, i)
			b, at, f := real.Where(a, i)
			if e != api.OK || f != api.OK || x.Text != text || m.place(a, i) != [2]int{b, at} {
				t.Fatalf("room %d: Get(%d, %d) = %v, %v, expected %s", seed, a, i, x, e, text)
			}
			if e := real.Set(b, at, num(1-len(text)%2)); e != api.OK { // seen through the array
				t.Fatal(e)
			}
			y, _ := real.Get(a, i)
			if y.Text != num(1-len(text)%2).Text {
				t.Fatalf("room %d: Set(%d, %d) does not change the element %d of %d", seed, b, at, i, a)
			}
			if e := real.Set(a, i, x); e != api.OK {
				t.Fatal(e)
			}
		}
		if lies.Fill >= 0 {
			want = want[:lies.Fill]
		}
		l, e := real.Contents(a)
		if e != api.OK || len(l) != len(want) {
			t.Fatalf("room %d: Contents(%d) = %v, %v, expected %v", seed, a, l, e, want)
		}
	}
}

// P1: no method panics, and with an error every other result is its zero value.
func TestAnyArguments(t *testing.T) {
	r := rand.New(rand.NewSource(3))
	n := func() int { return []int{-1 << 63, -3, -2, -1, 0, 1, 2, 3, 7, 100, 1<<63 - 1}[r.Intn(11)] }
	dims := func() []int {
		var l []int
		for range r.Intn(4) * r.Intn(4) {
			l = append(l, n())
		}
		return l
	}
	element := func() api.Form { return []api.Form{{}, num(0), num(1), str("x"), labelled(), vec(num(1))}[r.Intn(6)] }
	for range 300 {
		room := NewRoom()
		for range 60 {
			a := Array{Dims: dims(), Fill: n(), Adjustable: r.Intn(2) == 0, Target: n(), Offset: n(), Bits: r.Intn(2) == 0}
			if r.Intn(2) == 0 {
				a.Dims, a.Fill, a.Target, a.Offset = []int{r.Intn(4)}, r.Intn(2)-1, -1, 0
			}
			room.Make(a, element())
			room.Adjust(n(), dims(), n(), element())
			room.Displace(n(), dims(), n(), n())
			room.Set(n(), n(), element())
			room.SetFill(n(), n())
			room.Push(n(), element(), n())
			room.Boole(n(), n(), n(), n())
			if x, e := room.Pop(n()); e != api.OK && x.Kind != 0 {
				t.Fatalf("Pop: %v, %v", x, e)
			}
			if x, e := room.Index(n(), dims()); e != api.OK && x != 0 {
				t.Fatalf("Index: %v, %v", x, e)
			}
			if x, e := Subscripts(dims(), n()); e != api.OK && x != nil {
				t.Fatalf("Subscripts: %v, %v", x, e)
			}
		}
	}
}
