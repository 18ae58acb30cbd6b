package wide_test

import (
	"math/big"
	"math/rand/v2"
	"regexp"
	"testing"
	"unsafe"

	"soffit/api"
	"soffit/wide"
)

// words are those at whose products and sums something changes.
var words = []uint64{0, 1, 2, 3, 9, 10, 11, 1<<32 - 1, 1 << 32, 1<<32 + 1, m / 10, m/10 + 1, m / 3, 1 << 62, half - 1, half, half + 1, 10000000000000000000, m - 1, m}

func edges() []api.Wide {
	var all []api.Wide
	for _, hi := range words {
		for _, lo := range words {
			all = append(all, of(hi, lo))
		}
	}
	return all
}

// whole is a number as one without end.
func whole(a api.Wide) *big.Int {
	n := new(big.Int).SetUint64(a.Hi)
	return n.Add(n.Lsh(n, 64), new(big.Int).SetUint64(a.Lo))
}

// room is a number without end as one of two words, if it has room.
func room(n *big.Int) (api.Wide, bool) {
	if n.BitLen() > 128 {
		return api.Wide{}, false
	}
	return of(new(big.Int).Rsh(n, 64).Uint64(), new(big.Int).And(n, new(big.Int).SetUint64(m)).Uint64()), true
}

// pair holds Add and Compare of two numbers against the model.
func pair(t *testing.T, a, b api.Wide) {
	t.Helper()
	x, y := whole(a), whole(b)
	want, fits := room(new(big.Int).Add(x, y))
	if s, ok := wide.Add(a, b); s != want || ok != fits {
		t.Errorf("Add(%v, %v): %v, %v; not %v, %v", a, b, s, ok, want, fits)
	}
	if n := wide.Compare(a, b); n != x.Cmp(y) {
		t.Errorf("Compare(%v, %v): %d", a, b, n)
	}
}

// times holds Times against the model.
func times(t *testing.T, a api.Wide, b uint64) {
	t.Helper()
	want, fits := room(new(big.Int).Mul(whole(a), new(big.Int).SetUint64(b)))
	if p, ok := wide.Times(a, b); p != want || ok != fits {
		t.Errorf("Times(%v, %d): %v, %v; not %v, %v", a, b, p, ok, want, fits)
	}
}

// mul holds Mul against the model, and against Times (P7.7).
func mul(t *testing.T, a, b uint64) {
	t.Helper()
	want, _ := room(new(big.Int).Mul(new(big.Int).SetUint64(a), new(big.Int).SetUint64(b)))
	if p := wide.Mul(a, b); p != want {
		t.Errorf("Mul(%d, %d): %v, not %v", a, b, p, want)
	}
	if p, ok := wide.Times(wide.Of(a), b); p != want || !ok {
		t.Errorf("Times(Of(%d), %d): %v, %v; not %v", a, b, p, ok, want)
	}
}

// single holds Text, Parse and Fits of a number against the model.
func single(t *testing.T, a api.Wide) {
	t.Helper()
	n := whole(a)
	is(t, n.String(), a)
	var want int64
	if n.IsInt64() {
		want = n.Int64()
	}
	if k, ok := wide.Fits(a); k != want || ok != n.IsInt64() {
		t.Errorf("Fits(%v): %d, %v", a, k, ok)
	}
}

// P7.1 to P7.6: at all edges, and at all pairs of them.
func TestEdges(t *testing.T) {
	all := edges()
	for _, a := range all {
		single(t, a)
		for _, b := range words {
			times(t, a, b)
		}
		for _, b := range all {
			pair(t, a, b)
		}
	}
	for _, a := range words {
		for _, b := range words {
			mul(t, a, b)
		}
	}
}

// maker makes numbers at random, always the same ones, of any length, since evenly drawn ones are nearly all as long as can be.
type maker struct{ *rand.Rand }

func (k maker) word() uint64 {
	n := k.Uint64() >> k.IntN(65)
	if k.IntN(4) == 0 {
		n = ^n
	}
	return n
}

func (k maker) number() api.Wide { return of(k.word(), k.word()) }

// P7.1 to P7.6: numbers at random, and numbers beside the greatest that has room.
func TestRandom(t *testing.T) {
	k := maker{rand.New(rand.NewPCG(7, 1))}
	for range 100000 {
		a, b, n := k.number(), k.number(), k.word()
		single(t, a)
		pair(t, a, b)
		times(t, a, n)
		mul(t, n, k.word())
		rest := of(^a.Hi, ^a.Lo)
		if s, ok := wide.Add(a, rest); s != of(m, m) || !ok {
			t.Errorf("Add(%v, %v): %v, %v", a, rest, s, ok)
		}
		if a != of(0, 0) {
			pair(t, a, of(rest.Hi, rest.Lo+1))
		}
		brink(t, n)
	}
}

// brink holds Times against the model at the greatest number that has room with a word, and at the one above.
func brink(t *testing.T, n uint64) {
	t.Helper()
	if n < 2 {
		return
	}
	most := new(big.Int).Div(whole(of(m, m)), new(big.Int).SetUint64(n))
	a, _ := room(most)
	if _, ok := wide.Times(a, n); !ok {
		t.Errorf("Times(%v, %d) has no room", a, n)
	}
	times(t, a, n)
	b, _ := room(most.Add(most, big.NewInt(1)))
	if p, ok := wide.Times(b, n); ok || p != (api.Wide{}) {
		t.Errorf("Times(%v, %d): %v, %v", b, n, p, ok)
	}
}

// P7.7: sums in any order, each at least either of the two.
func sums(t *testing.T, a, b, c api.Wide) {
	t.Helper()
	ab, ok := wide.Add(a, b)
	if ba, ok2 := wide.Add(b, a); ab != ba || ok != ok2 {
		t.Errorf("%v and %v the other way round: %v, not %v", a, b, ba, ab)
	}
	if ok && (wide.Compare(ab, a) < 0 || wide.Compare(ab, b) < 0) {
		t.Errorf("%v and %v: %v is less than one of them", a, b, ab)
	}
	if !ok {
		return
	}
	left, ok := wide.Add(ab, c)
	bc, ok2 := wide.Add(b, c)
	right, ok3 := wide.Add(a, bc)
	if ok2 = ok2 && ok3; ok2 != ok || ok && left != right {
		t.Errorf("%v, %v and %v: %v, %v; or %v, %v", a, b, c, left, ok, right, ok2)
	}
}

// P7.7: products in any order, and those of a sum.
func products(t *testing.T, a, b api.Wide, n, k uint64) {
	t.Helper()
	if wide.Mul(n, k) != wide.Mul(k, n) {
		t.Errorf("%d and %d the other way round", n, k)
	}
	an, ok := wide.Times(a, n)
	ak, ok2 := wide.Times(a, k)
	if ok && ok2 {
		ank, ok := wide.Times(an, k)
		akn, ok2 := wide.Times(ak, n)
		if ank != akn || ok != ok2 {
			t.Errorf("%v by %d and %d: %v, %v; or %v, %v", a, n, k, ank, ok, akn, ok2)
		}
	}
	s, ok2 := wide.Add(a, b)
	bn, ok3 := wide.Times(b, n)
	if !ok || !ok2 || !ok3 {
		return
	}
	sn, ok := wide.Times(s, n)
	both, ok2 := wide.Add(an, bn)
	if sn != both || ok != ok2 {
		t.Errorf("%v and %v by %d: %v, %v; or %v, %v", a, b, n, sn, ok, both, ok2)
	}
}

// P7.7: at edges and at random.
func TestWhatFollows(t *testing.T) {
	k := maker{rand.New(rand.NewPCG(7, 2))}
	all := edges()
	for range 300000 {
		a, b, c, n, o := k.number(), k.number(), k.number(), k.word(), k.word()
		sums(t, a, b, c)
		products(t, a, b, n, o)
		a, b, c, n, o = all[k.IntN(len(all))], all[k.IntN(len(all))], all[k.IntN(len(all))], words[k.IntN(len(words))], words[k.IntN(len(words))]
		sums(t, a, b, c)
		products(t, a, b, n, o)
		// Short ones have room in most orders, so that both sides are there to be held against each other.
		a, b, n, o = of(a.Hi>>33, a.Lo), of(0, b.Lo), n>>33, o>>36
		sums(t, a, b, a)
		products(t, a, b, n, o)
	}
}

var form = regexp.MustCompile(`^(?:0|[1-9][0-9]*)$`)

// text holds Parse of any text against the model; of what it takes Text is the text (P7.7).
func text(t *testing.T, s string) {
	t.Helper()
	if !form.MatchString(s) {
		refused(t, s, api.ErrForm)
		return
	}
	n, _ := new(big.Int).SetString(s, 10)
	if a, ok := room(n); ok {
		is(t, s, a)
	} else {
		refused(t, s, api.ErrRange)
	}
}

// P7.6, P7.7: texts at random, mostly of digits, of lengths about the greatest number's.
func TestRandomTexts(t *testing.T) {
	k := maker{rand.New(rand.NewPCG(7, 3))}
	for range 100000 {
		b := make([]byte, k.IntN(44))
		for i := range b {
			b[i] = '0' + byte(k.IntN(10))
		}
		text(t, string(b))
		if len(b) > 0 {
			b[k.IntN(len(b))] = byte(k.IntN(256))
			text(t, string(b))
			text(t, top[:k.IntN(len(top))]+string(b))
		}
	}
}

func FuzzAgainstModel(f *testing.F) {
	for s := range numbers() {
		f.Add(s)
	}
	for _, s := range []string{"", "00", "-1", "+1", "1 ", "340282366920938463463374607431768211456", top + "0"} {
		f.Add(s)
	}
	f.Fuzz(text)
}

// R3 and R4: Parse neither changes the text nor hangs on it, and what is asked again is answered again.
func TestOneAnswer(t *testing.T) {
	for s, a := range numbers() {
		bytes := []byte(s + "!")
		given := unsafe.String(&bytes[0], len(s))
		got, e := wide.Parse(given)
		if string(bytes) != s+"!" {
			t.Errorf("Parse changed %q", s)
		}
		clear(bytes)
		if got != a || e != api.OK {
			t.Errorf("Parse(%q): %v, %d", s, got, e)
		}
		first := wide.Text(a)
		for _, b := range numbers() {
			wide.Text(b)
		}
		if first != s || wide.Text(a) != s {
			t.Errorf("Text(%v): %q, then %q", a, first, wide.Text(a))
		}
	}
}
