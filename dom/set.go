package dom

import (
	"math/bits"

	"soffit/api"
)

// set is instructions of one function, a bit each.
type set [(api.MaxCode + 63) / 64]uint64

// full has every instruction that there may be.
func full() set {
	var s set
	for i := range s {
		s[i] = ^uint64(0)
	}
	return s
}

func (s *set) has(v int) bool { return s[v/64]>>(v%64)&1 == 1 }

func (s *set) add(v int) { s[v/64] |= 1 << (v % 64) }

// meet keeps what the other set has, too.
func (s *set) meet(other *set) {
	for i := range s {
		s[i] &= other[i]
	}
}

func (s *set) size() int {
	n := 0
	for _, word := range s {
		n += bits.OnesCount64(word)
	}
	return n
}

// all goes through the set's instructions by rising number.
func (s *set) all(yield func(int) bool) {
	for i, word := range s {
		for ; word != 0; word &= word - 1 {
			if !yield(i*64 + bits.TrailingZeros64(word)) {
				return
			}
		}
	}
}
