package bounds

import (
	"iter"

	"soffit/api"
	"soffit/flow"
	"soffit/span"
)

// work is an analysis that goes on: what is found, which instructions are marked, and how often each was joined.
type work struct {
	m      api.Module
	f      api.Func
	found  api.Analysis
	marked []bool
	joined []int
	// What stood at the instruction whose turn it is, and what comes of it to another one: memory for all rounds, since there may be many.
	stood, came registers
}

// begin is a function's analysis ahead of its first round.
func begin(m api.Module, f api.Func) *work {
	length := len(f.Code)
	w := &work{m: m, f: f, marked: make([]bool, length), joined: make([]int, length)}
	w.stood, w.came = make(registers, f.Regs), make(registers, f.Regs)
	w.found.In = make([][]api.Span, length)
	w.found.Changes = make([][]int, length)
	for at := range length {
		w.found.Changes[at] = make([]int, f.Regs)
	}
	beginning := make([]api.Span, f.Regs)
	copy(beginning, f.Params)
	w.found.In[0], w.marked[0] = beginning, true
	return w
}

// round goes once through all instructions.
func (w *work) round() {
instructions:
	for at, marked := range w.instructions() {
		if !marked {
			continue instructions
		}
		w.marked[at] = false
		// It may lead to itself, so what stood there is kept apart.
		copy(w.stood, w.found.In[at])
		for _, to := range flow.Next(w.f, at) {
			copy(w.came, w.stood)
			if w.came.pass(w.m, w.f, at, to) {
				w.merge(to)
			}
		}
	}
}

// instructions goes through all numbers, each with whether it is marked when its turn has come: those ahead of it may have marked it in the same round.
func (w *work) instructions() iter.Seq2[int, bool] {
	return func(yield func(int, bool) bool) {
		for at := range w.marked {
			if !yield(at, w.marked[at]) {
				return
			}
		}
	}
}

// merge lets what comes to an instruction stand there beside what stood there.
func (w *work) merge(to int) {
	stood := w.found.In[to]
	if len(stood) == 0 {
		w.found.In[to], w.marked[to] = w.came.copied(), true
		return
	}
	if !w.changed(to) {
		return
	}
	w.joined[to]++
	w.marked[to] = true
	for r, came := range w.came {
		if w.joined[to] <= api.WidenAfter {
			stood[r] = span.Join(stood[r], came)
		} else {
			stood[r] = span.Widen(stood[r], came, w.m.Thresholds)
		}
	}
}

// changed counts each register that what comes to an instruction changes there, and tells whether there is one.
func (w *work) changed(to int) bool {
	found := false
	for r, s := range w.found.In[to] {
		if span.Join(s, w.came[r]) != s {
			w.found.Changes[to][r]++
			found = true
		}
	}
	return found
}
