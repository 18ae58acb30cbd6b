package trips

import (
	"soffit/api"
	"soffit/span"
)

// count is a loop's count, with all that its two registers may hold where the loop is entered.
type count struct {
	head api.Ins
	a, b api.Span
}

// counts are those of loops into which nothing has come yet: there is no number in either register.
func counts(f api.Func, l []api.Loop) []count {
	none := api.Span{Lo: 1}
	all := make([]count, len(l))
	for i, x := range l {
		all[i] = count{f.Code[x.Head], none, none}
	}
	return all
}

// join takes what the registers may hold on one more way into the loop.
func (c *count) join(in []api.Span) {
	c.a = span.Join(c.a, in[c.head.A])
	c.b = span.Join(c.b, in[c.head.B])
}

// lengths are how many rounds there may be at most: none, where nothing came in.
func lengths(all []count) []uint64 {
	told := make([]uint64, len(all))
	for i, c := range all {
		told[i] = span.Length(c.a, c.b)
	}
	return told
}
