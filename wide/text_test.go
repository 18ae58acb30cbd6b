package wide_test

import (
	"strings"
	"testing"

	"soffit/api"
	"soffit/wide"
)

const top = "340282366920938463463374607431768211455"

// numbers are texts, each with its number.
func numbers() map[string]api.Wide {
	return map[string]api.Wide{
		"0": of(0, 0), "1": of(0, 1), "7": of(0, 7), "9": of(0, 9), "11": of(0, 11), "42": of(0, 42), "105": of(0, 105), "1203": of(0, 1203),
		"4294967295": of(0, 1<<32-1), "4294967296": of(0, 1<<32), "9223372036854775807": of(0, half-1), "9223372036854775808": of(0, half),
		"18446744073709551614": of(0, m-1), "18446744073709551615": of(0, m), "18446744073709551616": of(1, 0), "18446744073709551617": of(1, 1), "36893488147419103231": of(1, m), "36893488147419103232": of(2, 0),
		"100000000000000000000": of(5, 7766279631452241920), "170141183460469231731687303715884105727": of(half-1, m), "170141183460469231731687303715884105728": of(half, 0),
		"340282366920938463444927863358058659840": of(m, 0), "340282366920938463463374607431768211454": of(m, m-1), top: of(m, m),
	}
}

// is holds a text and a number against each other, both ways.
func is(t *testing.T, s string, a api.Wide) {
	t.Helper()
	if got := wide.Text(a); got != s {
		t.Errorf("Text(%v): %q, not %q", a, got, s)
	}
	if got, e := wide.Parse(s); got != a || e != api.OK {
		t.Errorf("Parse(%q): %v, %d; not %v", s, got, e, a)
	}
}

// refused holds a text against the error that it must have.
func refused(t *testing.T, s string, e api.Errno) {
	t.Helper()
	if a, got := wide.Parse(s); got != e || a != (api.Wide{}) {
		t.Errorf("Parse(%q): %v, %d; not %d", s, a, got, e)
	}
}

// P7.5, P7.6: numbers of one word and of two, at the ends of each.
func TestTexts(t *testing.T) {
	for s, a := range numbers() {
		is(t, s, a)
	}
}

// P7.5, P7.6: each power of ten that there is, and the numbers beside it.
func TestPowersOfTen(t *testing.T) {
	power := of(0, 1)
	for zeros := range 39 {
		is(t, "1"+strings.Repeat("0", zeros), power)
		if zeros > 0 {
			below := of(power.Hi, power.Lo-1)
			if power.Lo == 0 {
				below.Hi--
			}
			is(t, strings.Repeat("9", zeros), below)
			is(t, "1"+strings.Repeat("0", zeros-1)+"1", of(power.Hi, power.Lo+1))
		}
		next, ok := wide.Times(power, 10)
		if ok != (zeros < 38) {
			t.Errorf("10^%d: %v, %v", zeros+1, next, ok)
		}
		power = next
	}
}

// P7.6: numbers above 2^128 - 1: by one, by each digit, and by as many digits as one likes.
func TestAbove(t *testing.T) {
	refused(t, "340282366920938463463374607431768211456", api.ErrRange)
	for _, s := range []string{
		"340282366920938463463374607431768211457", "340282366920938463463374607431768211459", "340282366920938463463374607431768211460", "340282366920938463481821351505477763071", "400000000000000000000000000000000000000", "680564733841876926926749214863536422911", "999999999999999999999999999999999999999",
		"1000000000000000000000000000000000000000", "3402823669209384634633746074317682114550", "1" + top, top + "0", top + "5", top + top,
		"115792089237316195423570985008687907853269984665640564039457584007913129639936", strings.Repeat("9", 77), "1" + strings.Repeat("0", 99), strings.Repeat("7", 1<<20),
	} {
		refused(t, s, api.ErrRange)
	}
	for i := range len(top) {
		if top[i] < '9' {
			refused(t, top[:i]+string(top[i]+1)+strings.Repeat("0", len(top)-i-1), api.ErrRange)
		}
		if top[i] > '0' && i > 0 {
			if _, e := wide.Parse(top[:i] + string(top[i]-1) + strings.Repeat("9", len(top)-i-1)); e != api.OK {
				t.Errorf("less at %d: %d", i, e)
			}
		}
	}
}

// P7.6: a 0 ahead, whatever follows it.
func TestZeroAhead(t *testing.T) {
	for _, s := range []string{"00", "01", "007", "000", "0000000000000000000000000000000000000000000", "0" + top, "00" + top, "0340282366920938463463374607431768211456", "0" + strings.Repeat("9", 99), "0x1", "0 ", "0-", "0\x00"} {
		refused(t, s, api.ErrForm)
	}
}

// P7.6: texts that other readers of numbers take.
func TestNoNumbers(t *testing.T) {
	for _, s := range []string{"", " ", "-", "+", "-0", "+0", "-1", "+1", " 1", "1 ", "1\n", "\t1", "1_000", "1,000", "1.0", "1.", ".5", "1e3", "1E3", "0x10", "0b1", "0o7", "ff", "a", "inf", "NaN", "nil", "1-", "1+", "1-1", "--1", "\x00", "1\x00", "\x001", "\x80", "\xff1", "\u0663", "1\u0663", "\uff11", "\u0967\u0968", "\u00b2", "9\u20e3", top + " ", "-" + top, "+" + top, "-18446744073709551616"} {
		refused(t, s, api.ErrForm)
	}
}

// P7.6: each byte at each place, in place of a digit and between two: of a byte that is none ErrForm, also where the text is too long to be a number; of a digit the form is right.
func TestEachByte(t *testing.T) {
	for _, s := range []string{"5", "42", "1844674407370955161", "18446744073709551616", top, "340282366920938463463374607431768211456", top + "5", strings.Repeat("8", 77)} {
		for at := range len(s) + 1 {
			for c := range 256 {
				b := string([]byte{byte(c)})
				digit := '0' <= c && c <= '9'
				texts := []string{s[:at] + b + s[at:]}
				if at < len(s) {
					texts = append(texts, s[:at]+b+s[at+1:])
				}
				for _, x := range texts {
					if !digit || x[0] == '0' && len(x) > 1 {
						refused(t, x, api.ErrForm)
					} else if _, e := wide.Parse(x); e == api.ErrForm {
						t.Errorf("Parse(%q): ErrForm", x)
					}
				}
			}
		}
	}
}

// P7.6: ErrForm stands ahead of ErrRange, however far behind the number's end the wrong byte is.
func TestFormFirst(t *testing.T) {
	for _, n := range []int{39, 40, 41, 64, 100, 1000, 1 << 20} {
		nines := strings.Repeat("9", n)
		refused(t, nines, api.ErrRange)
		refused(t, nines+"x", api.ErrForm)
		refused(t, nines+"-", api.ErrForm)
		refused(t, " "+nines, api.ErrForm)
		refused(t, "0"+nines, api.ErrForm)
		refused(t, nines[:n/2]+"."+nines[n/2:], api.ErrForm)
	}
}
