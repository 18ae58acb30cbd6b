package parse

import "soffit/api"

// reader has the tokens that are not taken yet, the source's length, and how many EXPRs, RANK8s behind a sign and BLOCKs are open.
type reader struct {
	tokens []api.Token
	size   int
	open   int
}

// wrong is what is given up by panic: an error and its place.
type wrong struct {
	e  api.Errno
	at int
}

// peek tells the next token, which must be there.
func (r *reader) peek() api.Token {
	if len(r.tokens) == 0 {
		panic(wrong{api.ErrShort, r.size})
	}
	return r.tokens[0]
}

func (r *reader) pass() { r.tokens = r.tokens[1:] }

// is tells whether the next token is this sign or word.
func (r *reader) is(text string) bool { return len(r.tokens) > 0 && r.tokens[0].Text == text }

// has takes the next token, if it is this one.
func (r *reader) has(text string) bool {
	if !r.is(text) {
		return false
	}
	r.pass()
	return true
}

// must takes the next token, which must be this one.
func (r *reader) must(text string) {
	if t := r.peek(); t.Text != text {
		panic(wrong{api.ErrForm, t.At})
	}
	r.pass()
}

// take takes the next token, which must be of this kind.
func (r *reader) take(kind int) api.Token {
	t := r.peek()
	if t.Kind != kind {
		panic(wrong{api.ErrForm, t.At})
	}
	r.pass()
	return t
}

func (r *reader) name() string { return r.take(api.TokName).Text }

// begin opens one more at the next token, whatever that one is: how deep it lies is asked ahead of whether it may stand there.
func (r *reader) begin() {
	t := r.peek()
	r.open++
	if r.open > api.MaxOpen {
		panic(wrong{api.ErrDeep, t.At})
	}
}

func (r *reader) end() { r.open-- }

// row reads one, and one more behind each comma.
func row[T any](r *reader, read func(*reader) T) []T {
	list := []T{read(r)}
	for r.has(",") {
		list = append(list, read(r))
	}
	return list
}

// within reads parentheses with a row, or nothing, between them.
func within[T any](r *reader, read func(*reader) T) []T {
	r.must("(")
	var list []T
	if !r.is(")") {
		list = row(r, read)
	}
	r.must(")")
	return list
}
