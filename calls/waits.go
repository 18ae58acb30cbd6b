package calls

import "soffit/api"

// waits is the functions that wait still, and for each of them those that it calls and that do so, too.
type waits map[int]set

// waitsOf is how it begins: each function waits for all that it calls, for itself if it does.
func waitsOf(m api.Module) waits {
	w := waits{}
	for fn := range m.Funcs {
		w[fn] = calledBy(m, fn)
	}
	return w
}

// ready tells the least function that waits for none; not ok: each one waits.
func (w waits) ready() (int, bool) {
	least, found := 0, false
	for fn, others := range w {
		if len(others) == 0 && (!found || fn < least) {
			least, found = fn, true
		}
	}
	return least, found
}

// done takes a function away, and from all that wait for it.
func (w waits) done(fn int) {
	delete(w, fn)
	for _, others := range w {
		delete(others, fn)
	}
}

// leading is all functions among those that wait that lead to one of them.
func (w waits) leading(to int) set {
	all := set{}
	behind := []int{to}
	for len(behind) > 0 {
		last := len(behind) - 1
		at := behind[last]
		behind = behind[:last]
		for fn, others := range w {
			if others.has(at) && !all.has(fn) {
				all.add(fn)
				behind = append(behind, fn)
			}
		}
	}
	return all
}
