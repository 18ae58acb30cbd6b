package mean

import "soffit/api"

// run is what a call comes to: the rounds begun so far, and the value of the latest return.
type run struct {
	funcs               []fn
	most, rounds, value int64
}

// stop is what ends all of a run: it is given up by panic.
type stop api.Errno

// end is how statements end.
type end int

const (
	onward   end = iota // behind the last one
	broken              // at a break, whose loop is still around
	returned            // at a return
)

// whole is the run's first call, which catches what ends it.
func (r *run) whole(number int, args []int64) (m api.Meaning) {
	defer func() {
		if e, ok := recover().(stop); ok {
			m.E = api.Errno(e)
		}
		m.Rounds = r.rounds
	}()
	m.V = r.call(&r.funcs[number], args)
	return m
}

// begin counts a round that begins.
func (r *run) begin() {
	if r.rounds == r.most {
		panic(stop(api.ErrLong))
	}
	r.rounds++
}

func (r *run) call(f *fn, args []int64) int64 {
	r.begin()
	f.born = r.rounds
	if f.words == nil {
		f.words = make([]word, f.size)
	}
	copy(f.vars, args)
	if r.list(f, f.body) == returned {
		return r.value
	}
	return 0
}

func (r *run) list(f *fn, list []stmt) end {
	for i := range list {
		if e := r.stmt(f, &list[i]); e != onward {
			return e
		}
	}
	return onward
}

func (r *run) stmt(f *fn, s *stmt) end {
	switch s.kind {
	case api.StmtLet, api.StmtAssign:
		f.vars[s.place.at] = r.expr(f, &s.a)
	case api.StmtStore:
		at := s.place.word(r.expr(f, &s.a)) // ahead of the value: of two traps the index's comes first
		f.words[at] = word{value: r.expr(f, &s.b), born: f.born}
	case api.StmtIf:
		if r.expr(f, &s.a) != 0 {
			return r.list(f, s.body)
		}
		return r.list(f, s.other)
	case api.StmtSwitch:
		return r.list(f, s.chosen(r.expr(f, &s.a)))
	case api.StmtFor:
		return r.loop(f, s)
	case api.StmtBreak:
		return broken
	case api.StmtReturn:
		r.value = r.expr(f, &s.a)
		return returned
	case api.StmtCall:
		r.expr(f, &s.a)
	}
	return onward
}

// chosen is what a switch does at a value.
func (s *stmt) chosen(value int64) []stmt {
	for i := range s.cases {
		if s.cases[i].n == value {
			return s.cases[i].body
		}
	}
	return s.other
}

// loop does the rounds. Both bounds are worked out once, whatever is written within.
func (r *run) loop(f *fn, s *stmt) end {
	from := r.expr(f, &s.a)
	to := r.expr(f, &s.b)
rounds:
	for i := from; i < to; i++ {
		r.begin()
		f.vars[s.place.at] = i
		switch r.list(f, s.body) {
		case broken:
			break rounds
		case returned:
			return returned
		}
	}
	return onward
}
