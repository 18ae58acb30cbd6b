package names

import "soffit/api"

// The kinds of variables, and 0 for a name of none.
const (
	plain   = iota + 1 // a parameter or a local
	array              // what has words, and is read and written by index
	counter            // a loop's variable
)

// scope is what is known in one list of statements: its own variables, and those of the scope around it, which it embeds. No name is known twice, so the order in which scopes are asked does not matter.
type scope struct {
	*scope
	kinds  map[string]int
	inLoop bool
}

// within is a new scope that lies in this one.
func (s *scope) within() *scope {
	return &scope{scope: s, kinds: map[string]int{}, inLoop: s.inLoop}
}

func (s *scope) kind(name string) int {
	for ; s != nil; s = s.scope {
		if kind, ok := s.kinds[name]; ok {
			return kind
		}
	}
	return 0
}

// declare makes a variable known from here on.
func (s *scope) declare(name string, kind int) api.Errno {
	if s.kind(name) != 0 {
		return api.ErrTwice
	}
	s.kinds[name] = kind
	return api.OK
}

// read asks for a variable that has one number.
func (s *scope) read(name string) api.Errno {
	switch s.kind(name) {
	case 0:
		return api.ErrName
	case array:
		return api.ErrKind
	}
	return api.OK
}

// write asks for a variable that has one number, and may get another one.
func (s *scope) write(name string) api.Errno {
	if s.kind(name) == counter {
		return api.ErrFixed
	}
	return s.read(name)
}

// index asks for an array.
func (s *scope) index(name string) api.Errno {
	switch s.kind(name) {
	case 0:
		return api.ErrName
	case array:
		return api.OK
	}
	return api.ErrKind
}

// leave asks for a loop around.
func (s *scope) leave() api.Errno {
	if !s.inLoop {
		return api.ErrBreak
	}
	return api.OK
}
