package pack

import "soffit/api"

// writer puts numbers behind bytes.
type writer struct{ bytes []byte }

// number puts one that has room in so many bytes.
func (w *writer) number(size int, n uint64) {
	for range size {
		w.bytes = append(w.bytes, byte(n))
		n >>= 8
	}
}

func (w *writer) byte(n int) { w.number(byteSize, uint64(n)) }

func (w *writer) short(n int) { w.number(shortSize, uint64(n)) }

func (w *writer) word(n int64) { w.number(wordSize, uint64(n)) }

func (w *writer) text(s string) { w.bytes = append(w.bytes, s...) }

// moduleWriter writes modules that may be: so their numbers have room.
type moduleWriter struct{ writer }

func (w *moduleWriter) module(m api.Module) {
	w.text(signature)
	w.byte(len(m.Thresholds))
	for _, n := range m.Thresholds {
		w.word(n)
	}
	w.byte(len(m.Funcs))
	for _, f := range m.Funcs {
		w.function(f)
	}
}

func (w *moduleWriter) function(f api.Func) {
	w.byte(len(f.Name))
	w.text(f.Name)
	w.byte(len(f.Params))
	for _, p := range f.Params {
		w.word(p.Lo)
		w.word(p.Hi)
	}
	w.byte(f.Regs)
	w.short(f.Words)
	w.short(len(f.Code))
	for _, x := range f.Code {
		w.instruction(x)
	}
}

func (w *moduleWriter) instruction(x api.Ins) {
	w.byte(x.Op)
	w.byte(x.A)
	w.byte(x.B)
	w.byte(x.C)
	w.word(x.N)
}
