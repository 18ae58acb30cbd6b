package pack_test

import (
	"bytes"
	"encoding/binary"
	"math/rand/v2"
	"slices"
	"strconv"
	"testing"

	"soffit/api"
	"soffit/code"
	"soffit/pack"
)

// bytesOf is the model of writing: what encoding/binary makes of a module's parts. The module needn't be one that may be, if its numbers have room.
func bytesOf(m api.Module) []byte {
	var all bytes.Buffer
	put := func(parts ...any) {
		for _, p := range parts {
			if err := binary.Write(&all, binary.LittleEndian, p); err != nil {
				panic(err)
			}
		}
	}
	put([]byte{0x53, 0x46, 0x54, 1}, uint8(len(m.Thresholds)), m.Thresholds, uint8(len(m.Funcs)))
	for _, f := range m.Funcs {
		put(uint8(len(f.Name)), []byte(f.Name), uint8(len(f.Params)), f.Params, uint8(f.Regs), uint16(f.Words), uint16(len(f.Code)))
		for _, x := range f.Code {
			put(struct {
				Op, A, B, C uint8
				N           int64
			}{uint8(x.Op), uint8(x.A), uint8(x.B), uint8(x.C), x.N})
		}
	}
	return all.Bytes()
}

// wish is a piece of bytes that a module wants, and the error that it has, if it is there whole.
type wish struct {
	from, to int
	e        api.Errno
}

// wishes is the model of reading: it goes on as if there were bytes 0 without end behind the bytes, and as if too many were as many as may be. What was wanted is looked at afterwards.
type wishes struct {
	bytes []byte
	all   []wish
}

func (w *wishes) end() int {
	if len(w.all) == 0 {
		return 0
	}
	return w.all[len(w.all)-1].to
}

func (w *wishes) piece(n int) []byte {
	from := w.end()
	w.all = append(w.all, wish{from, from + n, api.OK})
	b := make([]byte, n)
	if from < len(w.bytes) {
		copy(b, w.bytes[from:])
	}
	return b
}

func (w *wishes) byte() int  { return int(w.piece(1)[0]) }
func (w *wishes) short() int { return int(binary.LittleEndian.Uint16(w.piece(2))) }
func (w *wishes) word() int64 {
	return int64(binary.LittleEndian.Uint64(w.piece(8)))
}

// wrong says what is wrong with the piece that was wanted last.
func (w *wishes) wrong(e api.Errno) { w.all[len(w.all)-1].e = e }

func (w *wishes) atMost(n, most int, e api.Errno) int {
	if n > most {
		w.wrong(e)
	}
	return min(n, most)
}

func (w *wishes) module() api.Module {
	var m api.Module
	for _, b := range []int{0x53, 0x46, 0x54, 1} {
		if w.byte() != b {
			w.wrong(api.ErrForm)
		}
	}
	for range w.atMost(w.byte(), 16, api.ErrMany) {
		m.Thresholds = append(m.Thresholds, w.word())
	}
	for range w.atMost(w.byte(), 32, api.ErrMany) {
		f := api.Func{Name: string(w.piece(w.atMost(w.byte(), 16, api.ErrName)))}
		for range w.atMost(w.byte(), 8, api.ErrMany) {
			lo := w.word()
			f.Params = append(f.Params, api.Span{Lo: lo, Hi: w.word()})
		}
		f.Regs = w.byte()
		f.Words = w.short()
		for range w.atMost(w.short(), 1024, api.ErrCode) {
			x := w.piece(12)
			f.Code = append(f.Code, api.Ins{Op: int(x[0]), A: int(x[1]), B: int(x[2]), C: int(x[3]), N: int64(binary.LittleEndian.Uint64(x[4:]))})
		}
		m.Funcs = append(m.Funcs, f)
	}
	return m
}

func modelDecode(b []byte) (api.Module, api.Errno, int) {
	if len(b) > 1<<20 {
		return api.Module{}, api.ErrBytes, 1 << 20
	}
	w := wishes{bytes: b}
	m := w.module()
	for _, x := range w.all {
		if x.to > len(b) {
			return api.Module{}, api.ErrShort, len(b)
		}
		if x.e != api.OK {
			return api.Module{}, x.e, x.from
		}
	}
	if w.end() < len(b) {
		return api.Module{}, api.ErrRest, w.end()
	}
	return m, api.OK, 0
}

// against holds Decode of bytes to the model; and where it takes them, what Encode says of the module (P11.3).
func against(t *testing.T, b []byte) api.Errno {
	t.Helper()
	m, e, at := pack.Decode(b)
	want, e2, at2 := modelDecode(b)
	if e != e2 || at != at2 || !code.Same(m, want) {
		t.Errorf("Decode(%x): %v, %d at %d; not %v, %d at %d", short(b), m, e, at, want, e2, at2)
	}
	if e == api.OK {
		there(t, m, b)
	}
	return e
}

// there holds Encode of a module that was read to the bytes of which it was: these, if it may be; else May's fault.
func there(t *testing.T, m api.Module, b []byte) {
	t.Helper()
	got, f := pack.Encode(m)
	if want := code.May(m); f != want {
		t.Errorf("Encode(%.300v): %v, not %v", m, f, want)
	}
	if f.E == api.OK && !bytes.Equal(got, b) {
		t.Errorf("Encode of Decode(%x): %x", short(b), short(got))
	}
	if f.E != api.OK && len(got) != 0 {
		t.Errorf("Encode(%.300v): %v, and %x", m, f, short(got))
	}
}

type maker struct{ *rand.Rand }

func pick[T any](k maker, list ...T) T { return list[k.IntN(len(list))] }

func (k maker) number() int64 {
	if k.IntN(3) == 0 {
		return int64(k.Uint64() >> k.IntN(64))
	}
	return pick[int64](k, 0, 0, 1, -1, 2, 255, 256, -256, 65536, most, least, most-1, least+1)
}

func (k maker) head(number int) api.Func {
	f := api.Func{Name: pick(k, "f", "g", "fn", "a0", "longer", "abcdefghijklmn") + strconv.Itoa(number), Words: pick(k, 0, 1, 255, 256, 4096, k.IntN(4097))}
	for range pick(k, 0, 0, 1, 2, 8) {
		a, b := k.number(), k.number()
		f.Params = append(f.Params, api.Span{Lo: min(a, b), Hi: max(a, b)})
	}
	f.Regs = min(64, max(1, len(f.Params))+pick(k, 0, 1, 10, 64))
	f.Code = make([]api.Ins, pick(k, 1, 2, 3, 5, 12))
	if k.IntN(50) == 0 {
		f.Code = make([]api.Ins, pick(k, 255, 256, 257, 1023, 1024))
	}
	return f
}

// instruction makes one that may stand in the function f.
func (k maker) instruction(m api.Module, f api.Func, op int) api.Ins {
	x := api.Ins{Op: op}
	for _, field := range operations[op] {
		set(&x, field, int64(k.IntN(f.Regs)))
	}
	switch op {
	case api.OpSet, api.OpLoad, api.OpStore:
		x.N = k.number()
	case api.OpCheck:
		x.N = int64(pick(k, 1, 2, 255, 256, 4095, 4096))
	case api.OpJump, api.OpIf, api.OpUnless, api.OpCount, api.OpStep:
		x.N = int64(k.IntN(len(f.Code)))
	case api.OpCall:
		x.N = int64(k.IntN(len(m.Funcs)))
		room := f.Regs - len(m.Funcs[x.N].Params)
		if room < 0 {
			return api.Ins{}
		}
		x.B = min(k.IntN(room+1), f.Regs-1)
	}
	return x
}

// module makes one that may be.
func (k maker) module() api.Module {
	var m api.Module
	for range pick(k, 0, 1, 2, 3, 16) {
		m.Thresholds = append(m.Thresholds, k.number())
	}
	slices.Sort(m.Thresholds)
	m.Thresholds = slices.Compact(m.Thresholds)
	funcs := pick(k, 0, 1, 1, 2, 3)
	if k.IntN(15) == 0 {
		funcs = 32
	}
	for i := range funcs {
		m.Funcs = append(m.Funcs, k.head(i))
	}
	for _, f := range m.Funcs {
		for i := range f.Code {
			f.Code[i] = k.instruction(m, f, k.IntN(20))
		}
		f.Code[len(f.Code)-1] = k.instruction(m, f, pick(k, api.OpRet, api.OpJump, api.OpStep))
	}
	return m
}

// spoil changes one thing of bytes: one is turned, left out or put in, some are cut off or put behind.
func (k maker) spoil(b []byte) []byte {
	at := k.IntN(len(b) + 1)
	if k.IntN(2) == 0 {
		at = k.IntN(min(len(b), 40) + 1)
	}
	c := pick(k, 0, 1, 2, 4, 8, 9, 16, 17, 32, 33, 255, byte(k.IntN(256)))
	switch k.IntN(6) {
	case 0:
		return slices.Concat(b[:at], []byte{c}, b[at:])
	case 1, 2:
		return slices.Concat(b[:at], []byte{c}, b[min(at+1, len(b)):])
	case 3:
		return slices.Concat(b[:at], b[min(at+1, len(b)):])
	case 4:
		return slices.Concat(b, make([]byte, k.IntN(20)))
	}
	return slices.Clone(b[:at])
}

// met asks that each of the errors that there are was met often enough to say something.
func met(t *testing.T, told map[api.Errno]int, list ...api.Errno) {
	t.Helper()
	for _, e := range list {
		if told[e] < 20 {
			t.Errorf("the error %d was met %d times only", e, told[e])
		}
	}
}

// P11.3, W10: modules at random are written, and read as they were; the same with one to three things changed in the bytes.
func TestRandomModules(t *testing.T) {
	k := maker{rand.New(rand.NewPCG(11, 1))}
	told := map[api.Errno]int{}
	for range 5000 {
		m := k.module()
		if f := code.May(m); f.E != api.OK {
			t.Fatalf("the test's own module: %v: %v", m, f)
		}
		b := bytesOf(m)
		is(t, m, b)
		against(t, b)
		other := b
		for range 3 {
			other = k.spoil(other)
			told[against(t, other)]++
			apartFrom(t, m, b, other)
		}
	}
	met(t, told, api.OK, api.ErrForm, api.ErrMany, api.ErrName, api.ErrCode, api.ErrShort, api.ErrRest)
}

// apartFrom holds other bytes than a module's not to be read as that module.
func apartFrom(t *testing.T, m api.Module, b, other []byte) {
	t.Helper()
	if got, e, _ := pack.Decode(other); e == api.OK && !bytes.Equal(b, other) && code.Same(got, m) {
		t.Errorf("%x and %x are one module", short(b), short(other))
	}
}

// P11.2, P11.3: bytes at random, small ones more often, behind the beginnings of modules.
func TestRandomBytes(t *testing.T) {
	k := maker{rand.New(rand.NewPCG(11, 2))}
	told := map[api.Errno]int{}
	mays := map[api.Errno]int{}
	for range 100000 {
		b := pick(k, nil, row("53"), row(begin), row(begin, "00"), row(begin, "0001"), row(begin, "000101"), row(begin, "000101660001"), row(begin, "00010000"), row(begin, "0002 0166 00 010000 0100", retBytes))
		limit := pick(k, 2, 2, 3, 20, 256)
		for range k.IntN(24) {
			b = append(b, byte(k.IntN(limit)))
		}
		e := against(t, b)
		told[e]++
		if e == api.OK {
			m, _, _ := pack.Decode(b)
			mays[code.May(m).E]++
		}
	}
	met(t, told, api.OK, api.ErrForm, api.ErrMany, api.ErrName, api.ErrCode, api.ErrShort, api.ErrRest)
	met(t, mays, api.OK, api.ErrName, api.ErrCode)
}

// rows holds all rows of up to n of some bytes behind others to the model.
func rows(t *testing.T, b, list []byte, n int) {
	t.Helper()
	against(t, b)
	for _, c := range list {
		if n > 0 {
			rows(t, append(b[:len(b):len(b)], c), list, n-1)
		}
	}
}

// P11.2: all short rows of bytes, from the beginning on and behind each part of a module.
func TestRows(t *testing.T) {
	rows(t, nil, []byte{0x53, 0x46, 0x54, 1, 0, 2}, 6)
	rows(t, row(begin), []byte{0, 1, 16, 17, 32, 33, 255}, 5)
	rows(t, row(begin, "0001"), []byte{0, 1, 8, 9, 16, 17, 255}, 5)
	rows(t, row(begin, "0002"), []byte{0, 1}, 14)
	rows(t, row(begin, "0001000000"), []byte{0, 1, 3, 4, 5, 255}, 5)
	rows(t, row(begin, "0001000001000000"), []byte{0, 1, 0x21}, 4)
	rows(t, row(begin, "0101000000000000"), []byte{0, 1, 0x21}, 5)
	rows(t, row(begin, "0001016601", zeroWord, zeroWord[2:]), []byte{0, 1, 4}, 7)
}

// P11.2, P11.3: each byte of a module's changed to each other one, left out, and each byte put in at each place; none of these bytes is the module itself.
func TestOneByte(t *testing.T) {
	b := base().bytes()
	m, e, _ := pack.Decode(b)
	if e != api.OK || code.May(m).E != api.OK {
		t.Fatal("the test's own module")
	}
	hold := func(parts ...[]byte) {
		other := slices.Concat(parts...)
		against(t, other)
		apartFrom(t, m, b, other)
	}
	for at := range len(b) + 1 {
		for c := range 256 {
			hold(b[:at], []byte{byte(c)}, b[at:])
			if at < len(b) {
				hold(b[:at], []byte{byte(c)}, b[at+1:])
			}
		}
		hold(b[:at])
		hold(b[at:])
		if at < len(b) {
			hold(b[:at], b[at+1:])
		}
	}
}

// P11.3: no two modules have the same bytes.
func TestTwoModules(t *testing.T) {
	k := maker{rand.New(rand.NewPCG(11, 3))}
	seen := map[string]api.Module{}
	for range 5000 {
		m := k.module()
		if n := len(m.Funcs); n > 0 && k.IntN(2) == 0 {
			m.Funcs = m.Funcs[:1]
			m.Funcs[0].Code = []api.Ins{k.instruction(m, m.Funcs[0], api.OpRet)}
			m.Thresholds = nil
		}
		b, f := pack.Encode(m)
		if f != (api.Fault{}) {
			t.Fatalf("Encode(%v): %v", m, f)
		}
		if other, ok := seen[string(b)]; ok && !code.Same(m, other) {
			t.Errorf("%v and %v are both %x", m, other, short(b))
		}
		seen[string(b)] = m
	}
}

func FuzzAgainstModel(f *testing.F) {
	f.Add([]byte{})
	f.Add(base().bytes())
	for _, s := range []string{"0000", "11", "0021", "000111", "000000", "000100000000000104", "000100000000000004"} {
		f.Add(row(begin, s))
	}
	f.Fuzz(func(t *testing.T, b []byte) { against(t, b) })
}
