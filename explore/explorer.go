package explore

import (
	"cmp"
	"slices"

	"stutter/action"
	"stutter/api"
	"stutter/values"
)

// finding is how an exploration ends with what is looked at; with ExploreKept it goes on.
type finding struct {
	verdict, index int
	fault          api.Errno
}

// ended is how an exploration ends; it panics with it.
type ended struct {
	finding
	trace []api.State
}

// watcher looks at what is found.
type watcher interface {
	ofState(x api.State) finding
	ofStep(x api.StatePair) finding
	ofDeadlock() finding
}

// worker has the steps of a state that it expands.
type worker struct {
	state int
	steps []api.SpecStep
}

// explorer finds states, at which a watcher looks.
type explorer struct {
	api.Model
	watcher
	out   api.Exploration
	views []api.Value
	queue []int
}

// traceTo is the states over which a state was found, itself last, and perhaps a further one.
func (x *explorer) traceTo(state int, more ...api.State) []api.State {
	var out []api.State
	for ; state != api.None; state = x.out.From[state] {
		out = append(out, values.CloneAll(x.out.States[state]))
	}
	slices.Reverse(out)
	for _, s := range more {
		out = append(out, values.CloneAll(s))
	}
	return out
}

// end ends the exploration.
func (x *explorer) end(f finding, trace []api.State) { panic(ended{f, trace}) }

// failed is the end by an error.
func failed(err api.Errno) finding { return finding{verdict: api.ExploreFailed, fault: err} }

// viewOf is the view of a state; from is the one from which it is reached.
func (x *explorer) viewOf(s api.State, from int) api.Value {
	if len(x.View) == 0 {
		return api.Value{}
	}
	v, _, err := action.ValueAt(x.Spec, api.StatePair{From: s, To: s}, x.View)
	if err != api.OK {
		x.end(failed(err), x.traceTo(from, s))
	}
	return v
}

// find returns the number of a state that is looked for; it is found if it is new.
func (x *explorer) find(s api.State, from, by int) int {
	view := x.viewOf(s, from)
	for i, old := range x.out.States {
		if len(x.View) > 0 && values.Same(x.views[i], view) || len(x.View) == 0 && values.SameState(old, s) {
			return i
		}
	}
	if len(x.out.States) >= x.Most {
		x.end(finding{verdict: api.ExploreFull}, x.traceTo(from, s))
	}
	at := len(x.out.States)
	x.out.States, x.views = append(x.out.States, s), append(x.views, view)
	x.out.From, x.out.Action = append(x.out.From, from), append(x.out.Action, by)
	x.queue = append(x.queue, at)
	if f := x.ofState(s); f.verdict != api.ExploreKept {
		x.end(f, x.traceTo(at))
	}
	return at
}

// begin finds the first states.
func (x *explorer) begin() {
	first, _, err := action.FirstStates(x.Spec)
	if err != api.OK {
		x.end(failed(err), nil)
	}
	for _, s := range first {
		x.find(s, api.None, 0)
	}
}

// take gives a worker the steps of the first state of the queue.
func (x *explorer) take(w *worker) {
	if len(x.queue) == 0 {
		return
	}
	w.state = x.queue[0]
	x.queue = x.queue[1:]
	s := x.out.States[w.state]
	if len(x.Constraint) > 0 {
		holds, _, err := action.HoldsAt(x.Spec, s, x.Constraint)
		if err != api.OK {
			x.end(failed(err), x.traceTo(w.state))
		}
		if !holds {
			return
		}
	}
	steps, _, err := action.StepsFrom(x.Spec, s)
	if err != api.OK {
		x.end(failed(err), x.traceTo(w.state))
	}
	if f := x.ofDeadlock(); len(steps) == 0 && f.verdict != api.ExploreKept {
		x.end(f, x.traceTo(w.state))
	}
	w.steps = steps
}

// step does the next step of a worker.
func (x *explorer) step(w *worker) {
	next := w.steps[0]
	w.steps = w.steps[1:]
	pair := api.StatePair{From: x.out.States[w.state], To: next.To}
	if f := x.ofStep(pair); f.verdict != api.ExploreKept {
		x.end(f, x.traceTo(w.state, next.To))
	}
	to := x.find(next.To, w.state, next.Action)
	x.out.Edges = append(x.out.Edges, api.Edge{From: w.state, To: to, Action: next.Action})
}

// run explores with workers, whose turns a schedule gives.
func (x *explorer) run(workers int, schedule []int) (out api.Exploration) {
	defer func() {
		switch r := recover().(type) {
		case nil:
			return
		case ended:
			x.out.Verdict, x.out.Index, x.out.Fault, x.out.Trace = r.verdict, r.index, r.fault, r.trace
		default: // a function that the document lists does not panic
			x.out.Verdict, x.out.Fault = api.ExploreFailed, api.ErrForm
		}
		out = x.finished()
	}()
	x.begin()
	all := make([]worker, workers)
	for turn := 0; ; turn++ {
		idle := !slices.ContainsFunc(all, func(w worker) bool { return len(w.steps) > 0 })
		if idle && len(x.queue) == 0 {
			return x.finished()
		}
		n := (turn - len(schedule)) % workers
		if turn < len(schedule) {
			n = schedule[turn]
		}
		if w := &all[n]; len(w.steps) > 0 {
			x.step(w)
		} else {
			x.take(w)
		}
	}
}

func compareEdges(a, b api.Edge) int {
	return cmp.Or(cmp.Compare(a.From, b.From), cmp.Compare(a.To, b.To), cmp.Compare(a.Action, b.Action))
}

// finished is what was found, with steps in order.
func (x *explorer) finished() api.Exploration {
	slices.SortFunc(x.out.Edges, compareEdges)
	x.out.Edges = slices.Compact(x.out.Edges)
	return x.out
}

// explorerOf looks at the properties of a model.
func explorerOf(m api.Model) *explorer { return &explorer{Model: m, watcher: properties{m}} }
