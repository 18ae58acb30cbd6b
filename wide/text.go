package wide

import (
	"math/bits"

	"soffit/api"
)

const (
	base      = 10
	mostBytes = 39 // of 2^128 - 1
)

// Text tells a number's digits.
func Text(a api.Wide) string {
	var digits [mostBytes]byte
	at := len(digits)
	for {
		tenth, last := divide(a)
		at--
		digits[at] = '0' + last
		if tenth == (api.Wide{}) {
			return string(digits[at:])
		}
		a = tenth
	}
}

// Parse tells the number of a text.
func Parse(s string) (api.Wide, api.Errno) {
	if !formed(s) {
		return api.Wide{}, api.ErrForm
	}
	var n api.Wide
	for i := range len(s) {
		more, ok := put(n, s[i]-'0')
		if !ok {
			return api.Wide{}, api.ErrRange
		}
		n = more
	}
	return n, api.OK
}

// divide tells a tenth of a number, cut, and its last digit.
func divide(a api.Wide) (api.Wide, byte) {
	hi, rest := bits.Div64(0, a.Hi, base)
	lo, rest := bits.Div64(rest, a.Lo, base)
	return api.Wide{Hi: hi, Lo: lo}, byte(rest)
}

// put tells the number with one more digit behind its last one; false: it has more than two words.
func put(n api.Wide, digit byte) (api.Wide, bool) {
	ten, ok := Times(n, base)
	if !ok {
		return api.Wide{}, false
	}
	return Add(ten, Of(uint64(digit)))
}

// formed tells whether a text is digits, without a 0 ahead but for 0 itself.
func formed(s string) bool {
	if s == "" || s[0] == '0' && len(s) > 1 {
		return false
	}
	for i := range len(s) {
		if s[i] < '0' || s[i] > '9' {
			return false
		}
	}
	return true
}
