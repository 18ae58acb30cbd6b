package calls

import "slices"

// set is functions, by their numbers.
type set map[int]struct{}

func (s set) add(fn int) { s[fn] = struct{}{} }

func (s set) has(fn int) bool {
	_, ok := s[fn]
	return ok
}

// sorted tells the functions by rising number, as a map goes through them in any order.
func (s set) sorted() []int {
	list := make([]int, 0, len(s))
	for fn := range s {
		list = append(list, fn)
	}
	slices.Sort(list)
	return list
}
