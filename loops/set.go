package loops

import "slices"

// set is a loop's members.
type set map[int]struct{}

func (s set) add(v int) { s[v] = struct{}{} }

func (s set) has(v int) bool {
	_, ok := s[v]
	return ok
}

// hasTarget is has of an instruction's N, which may be no instruction's number at all.
func (s set) hasTarget(n int64) bool { return int64(int(n)) == n && s.has(int(n)) }

// sorted tells the members by rising number, as a map goes through them in any order.
func (s set) sorted() []int {
	list := make([]int, 0, len(s))
	for v := range s {
		list = append(list, v)
	}
	slices.Sort(list)
	return list
}
