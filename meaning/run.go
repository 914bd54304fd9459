package meaning

import (
	"slices"

	"commonform/api"
	"commonform/heap"
	"commonform/lib"
)

// maxNested is how deep runs may be parts of one another: each takes memory that no limit of a single run counts.
const maxNested = api.MaxLive

// whole is what a run shares with those that are its parts.
type whole struct {
	constants map[*node]heap.Word
	depth     int
	isCrossed bool // an exit led out of a part
}

// inside returns a whole for a run that begins while another one, or none, is going on.
func (x *whole) inside() *whole {
	inner := &whole{constants: map[*node]heap.Word{}}
	if x != nil {
		inner.depth = x.depth
	}
	return inner
}

// run runs a tree, or calls a function.
type run struct {
	world   *lib.World
	heap    *heap.Heap
	builtin func(function heap.Word, args []heap.Word) lib.Answer
	trees   *trees
	whole   *whole
	isPart  bool // of another run
	first   int  // how many blocks and tagbodies were begun ahead of it
	frames  []frame
	steps   int
	most    int
}

func newRun(w *lib.World, steps int) *run {
	t := treesOf(w)
	return &run{world: w, heap: w.Heap(), builtin: w.Call, trees: t, first: t.begun, most: min(max(steps, 0), api.MaxSteps)}
}

// stop is what a run panics with where nothing in it can go on.
type stop struct{ end lib.End }

func limit(e api.Errno) { panic(stop{end: lib.End{Kind: lib.EndLimit, Code: e}}) }

func bad(e api.Errno) { panic(stop{end: lib.End{Kind: lib.EndBad, Code: e}}) }

// within runs from a state on, while the world has the one whole, and has the other one behind it.
func (r *run) within(outer, inner *whole, first state) (end lib.End, steps int) {
	r.whole = inner
	r.whole.depth++
	r.world.SetExtra(whileRunning, inner)
	defer func() {
		r.whole.depth--
		r.world.SetExtra(whileRunning, nil)
		if outer != nil {
			r.world.SetExtra(whileRunning, outer)
		}
		steps = r.steps
		if x := recover(); x != nil {
			end = endOf(x)
		}
	}()
	if inner.depth > maxNested {
		limit(api.ErrDepth)
	}
	end = r.loop(first)
	return end, r.steps
}

// endOf returns the end that a run has panicked with.
func endOf(x any) lib.End {
	if s, ok := x.(stop); ok {
		return s.end
	}
	return lib.End{Kind: lib.EndBad, Code: api.ErrArg} // what somebody else has registered has panicked
}

// state is what is to be done next: a node is to be begun, a function to be called, an exit goes on, or values are handed to the last frame.
type state struct {
	node     *node
	scope    *scope
	isCall   bool
	function heap.Word
	args     []heap.Word
	exit     *exit
	values   []heap.Word
}

func beginning(n *node, s *scope) state { return state{node: n, scope: s} }

func calling(function heap.Word, args []heap.Word) state {
	return state{isCall: true, function: function, args: args}
}

func giving(l ...heap.Word) state { return state{values: l} }

// loop makes one step after the other.
func (r *run) loop(s state) lib.End {
steps:
	for {
		switch {
		case s.node != nil:
			r.step()
			s = r.begin(s.node, s.scope)
		case s.isCall:
			r.step()
			s = r.call(s.function, s.args)
		case len(r.frames) == 0:
			break steps
		case s.exit != nil:
			s = r.leave(s.exit)
		default:
			s = r.give(s.values)
		}
	}
	if s.exit != nil {
		f := s.exit.fault
		return lib.End{Kind: lib.EndFault, Fault: lib.Fault{Type: f.Type, Data: slices.Clone(f.Data)}}
	}
	return lib.End{Values: slices.Clone(s.values)}
}

// step counts a step.
func (r *run) step() {
	if r.steps == r.most {
		limit(api.ErrSteps)
	}
	r.steps++
}

func (r *run) push(f frame) {
	if len(r.frames) == api.MaxLive {
		limit(api.ErrDepth)
	}
	r.frames = append(r.frames, f)
}

// pop takes the last frame away.
func (r *run) pop() { r.frames = r.frames[:len(r.frames)-1] }

// pushed begins a node that hands its values to a frame.
func (r *run) pushed(f frame, n *node, s *scope) state {
	r.push(f)
	return beginning(n, s)
}

// cut returns the value of a form that is cut.
func cut(l []heap.Word) heap.Word {
	if len(l) == 0 {
		return heap.Nil
	}
	return l[0]
}

// symbol returns a symbol of the tree, or one that the run needs.
func (r *run) symbol(home, name string) heap.Word {
	x, e := r.world.Symbol(home, name)
	if e == api.ErrWords {
		limit(e)
	}
	if e != api.OK {
		bad(e)
	}
	return x
}

func (r *run) symbolOf(f api.Form) heap.Word { return r.symbol(f.Home, f.Text) }

func (r *run) truth(is bool) heap.Word {
	if !is {
		return heap.Nil
	}
	return r.symbol(lisp, "T")
}

// object returns a new object with fields.
func (r *run) object(kind int, fields ...heap.Word) heap.Word {
	x, e := r.heap.New(kind, len(fields))
	if e != api.OK {
		limit(e)
	}
	for i, field := range fields {
		r.heap.Set(x, i, field)
	}
	return x
}

func (r *run) list(l []heap.Word) heap.Word {
	made := heap.Nil
	for _, x := range slices.Backward(l) {
		made = r.object(heap.KindCons, x, made)
	}
	return made
}

func (r *run) get(x heap.Word, i int) heap.Word {
	field, _ := r.heap.Get(x, i)
	return field
}

// constant returns the object of a CoreConst, the same one each time in a run and its parts.
func (r *run) constant(n *node) heap.Word {
	if x, ok := r.whole.constants[n]; ok {
		return x
	}
	x, e := r.world.Build(n.Data)
	if e == api.ErrWords {
		limit(e)
	}
	if e != api.OK {
		bad(e)
	}
	r.whole.constants[n] = x
	return x
}
