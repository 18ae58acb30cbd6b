package asm

import (
	"iter"
	"strconv"
	"strings"

	"soffit/api"
	"soffit/code"
)

// The kinds of lines that are no instruction's; one that is has its operation for a kind.
const (
	widenRow = -1 - iota
	headRow
)

// room is how many numbers of a line are kept. So many thresholds, or parameters, are too many whatever stands behind them.
const room = max(api.MaxThresholds+1, 2+2*(api.MaxParams+1))

// row is a line as far as it has been read.
type row struct {
	number  int // the line's, from 1 on
	words   int // how many of its words have been read
	kind    int
	name    string // a function's
	numbers []int64
}

// words goes through the words of a line, each with its place. There is one at least, and any of them may be empty.
func words(line string) iter.Seq2[int, string] {
	return func(yield func(int, string) bool) {
		from := 0
		for to, c := range line {
			if c != ' ' {
				continue
			}
			if !yield(from, line[from:to]) {
				return
			}
			from = to + 1
		}
		yield(from, line[from:])
	}
}

// take reads the next word, which stands at a place of the line, or tells what is wrong, and where.
func (r *row) take(word string, at int) (api.Errno, int) {
	r.words++
	switch {
	case r.words == 1:
		return r.begin(word), 0
	case r.words == 2 && r.kind == headRow:
		// A piece of the text would hold on to all of it.
		r.name = strings.Clone(word)
		return api.OK, 0
	case r.kind >= 0 && r.words > 1+len(fields[r.kind]):
		return api.ErrRest, at - 1
	}
	n, ok := number(word)
	if !ok {
		return api.ErrNumber, at
	}
	if len(r.numbers) < room {
		r.numbers = append(r.numbers, n)
	}
	return api.OK, 0
}

// begin reads the first word, which says of what kind the line is, or tells what is wrong with it.
func (r *row) begin(word string) api.Errno {
	switch {
	case r.number == 1 && word == widenWord:
		r.kind = widenRow
		return api.OK
	case r.number > 1 && word == funcWord:
		r.kind = headRow
		return api.OK
	case r.number <= 2:
		return api.ErrForm
	}
	for op := 0; code.Known(op); op++ {
		if code.Word(op) == word {
			r.kind = op
			return api.OK
		}
	}
	return api.ErrOp
}

// whole tells whether the line may end behind the words that have been read.
func (r *row) whole() bool {
	switch r.kind {
	case widenRow:
		return true
	case headRow:
		// The word, Name, Regs and Words, and then two of each parameter.
		return r.words >= 4 && r.words%2 == 0
	}
	return r.words == 1+len(fields[r.kind])
}

// number tells that of a word, if it is one.
func number(word string) (int64, bool) {
	n, err := strconv.ParseInt(word, 10, 64)
	// There is one form alone of each number: zeros ahead, a plus and the like are known by it.
	if err != nil || strconv.FormatInt(n, 10) != word {
		return 0, false
	}
	return n, true
}
