package pack

import "soffit/api"

// moduleReader reads modules, and their parts, out of the numbers of the reader that it stands on.
type moduleReader struct{ reader }

func (m *moduleReader) module() api.Module {
	m.begin()
	var all api.Module
	all.Thresholds = list(&m.reader, m.count(byteSize, api.MaxThresholds, api.ErrMany), m.word)
	all.Funcs = list(&m.reader, m.count(byteSize, api.MaxFuncs, api.ErrMany), m.function)
	m.end()
	return all
}

func (m *moduleReader) begin() {
	for i := range len(signature) {
		if m.byte() != int(signature[i]) {
			m.fail(api.ErrForm, i)
		}
	}
}

func (m *moduleReader) function() api.Func {
	var f api.Func
	f.Name = string(m.take(m.count(byteSize, api.MaxName, api.ErrName)))
	f.Params = list(&m.reader, m.count(byteSize, api.MaxParams, api.ErrMany), m.span)
	f.Regs = m.byte()
	f.Words = m.short()
	f.Code = list(&m.reader, m.count(shortSize, api.MaxCode, api.ErrCode), m.instruction)
	return f
}

func (m *moduleReader) span() api.Span {
	var s api.Span
	s.Lo = m.word()
	s.Hi = m.word()
	return s
}

func (m *moduleReader) instruction() api.Ins {
	var x api.Ins
	x.Op = m.byte()
	x.A = m.byte()
	x.B = m.byte()
	x.C = m.byte()
	x.N = m.word()
	return x
}
