package pack

import "soffit/api"

// reader takes numbers from the front of bytes. What is wrong first stays: behind it nothing is taken, and every number is 0, so that nobody has to ask at each of them.
type reader struct {
	bytes []byte
	at    int // the place of the next byte
	e     api.Errno
	place int // where that is wrong
}

// fail keeps what is wrong, unless something was ahead of it.
func (r *reader) fail(e api.Errno, place int) {
	if r.e == api.OK {
		r.e, r.place = e, place
	}
}

// take tells the next n bytes, all of them or none.
func (r *reader) take(n int) []byte {
	if n > len(r.bytes)-r.at {
		r.fail(api.ErrShort, len(r.bytes))
	}
	if r.e != api.OK {
		return nil
	}
	from := r.at
	r.at += n
	return r.bytes[from:r.at]
}

// number tells the next one, of so many bytes.
func (r *reader) number(size int) uint64 {
	var n uint64
	for i, b := range r.take(size) {
		n |= uint64(b) << (8 * i)
	}
	return n
}

func (r *reader) byte() int { return int(r.number(byteSize)) }

func (r *reader) short() int { return int(r.number(shortSize)) }

func (r *reader) word() int64 { return int64(r.number(wordSize)) }

// count tells how many there are of something, which a number of so many bytes says; none, if that is more than may be.
func (r *reader) count(size, most int, e api.Errno) int {
	from := r.at
	n := int(r.number(size))
	if n > most {
		r.fail(e, from)
		return 0
	}
	return n
}

// end asks that nothing is left.
func (r *reader) end() {
	if r.at < len(r.bytes) {
		r.fail(api.ErrRest, r.at)
	}
}

// list reads so many of something, up to where something is wrong: what is kept grows no faster than the bytes that there are.
func list[T any](r *reader, n int, read func() T) []T {
	var all []T
	for range n {
		if r.e != api.OK {
			break
		}
		all = append(all, read())
	}
	return all
}
