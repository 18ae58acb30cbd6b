package scan_test

import (
	"slices"
	"strings"
	"testing"

	"soffit/api"
	"soffit/scan"
)

func name(at int, s string) api.Token { return api.Token{Kind: api.TokName, At: at, Text: s} }
func word(at int, s string) api.Token { return api.Token{Kind: api.TokWord, At: at, Text: s} }
func sign(at int, s string) api.Token { return api.Token{Kind: api.TokSign, At: at, Text: s} }
func number(at int, s string, n int64) api.Token {
	return api.Token{Kind: api.TokNumber, At: at, Text: s, N: n}
}

type answer struct {
	src    string
	tokens []api.Token // all of them, or those ahead of the error
	e      api.Errno
	at     int
}

const (
	allWords = "widen fn let for in if else switch case break return"
	allSigns = "( ) { } [ ] , ; : ? = == != < <= > >= + - * / % && || ! .."
)

func ordinary() []answer {
	return []answer{
		{src: "for i in 0..n", tokens: []api.Token{word(0, "for"), name(4, "i"), word(6, "in"), number(9, "0", 0), sign(10, ".."), name(12, "n")}},
		{src: "a<=b # c", tokens: []api.Token{name(0, "a"), sign(1, "<="), name(3, "b")}},
		{src: "x=-5;", tokens: []api.Token{name(0, "x"), sign(1, "="), sign(2, "-"), number(3, "5", 5), sign(4, ";")}},
		{src: "f(a,10)", tokens: []api.Token{name(0, "f"), sign(1, "("), name(2, "a"), sign(3, ","), number(4, "10", 10), sign(6, ")")}},
		{src: "5a", tokens: []api.Token{number(0, "5", 5), name(1, "a")}},
		{src: "a5 a5b", tokens: []api.Token{name(0, "a5"), name(3, "a5b")}},
		{src: "if1 iff fi in1", tokens: []api.Token{name(0, "if1"), name(4, "iff"), name(8, "fi"), name(11, "in1")}},
		{src: "1..2", tokens: []api.Token{number(0, "1", 1), sign(1, ".."), number(3, "2", 2)}},
		{src: "....", tokens: []api.Token{sign(0, ".."), sign(2, "..")}},
		{src: "===", tokens: []api.Token{sign(0, "=="), sign(2, "=")}},
		{src: "<==>=!==", tokens: []api.Token{sign(0, "<="), sign(2, "="), sign(3, ">="), sign(5, "!="), sign(7, "=")}},
		{src: "!!a&&||", tokens: []api.Token{sign(0, "!"), sign(1, "!"), name(2, "a"), sign(3, "&&"), sign(5, "||")}},
		{src: "<<>>=<", tokens: []api.Token{sign(0, "<"), sign(1, "<"), sign(2, ">"), sign(3, ">="), sign(5, "<")}},
		{src: "0", tokens: []api.Token{number(0, "0", 0)}},
		{src: "0 0a", tokens: []api.Token{number(0, "0", 0), number(2, "0", 0), name(3, "a")}},
	}
}

func edges() []answer {
	full := strings.Repeat("a", api.MaxName)
	long := "a" + strings.Repeat(" ", api.MaxSource-1)
	return []answer{
		{src: ""},
		{src: " \t\n\r"},
		{src: "#"},
		{src: "#\n"},
		{src: "# without an end & X 007"},
		{src: "##\n#\n\n# #"},
		{src: "#\r a\n7", tokens: []api.Token{number(5, "7", 7)}},
		{src: "a# b\n#c\r\n\td", tokens: []api.Token{name(0, "a"), name(10, "d")}},
		{src: "a#", tokens: []api.Token{name(0, "a")}},
		{src: "# \xff\x00\n1", tokens: []api.Token{number(5, "1", 1)}},
		{src: "9223372036854775807", tokens: []api.Token{number(0, "9223372036854775807", 1<<63-1)}},
		{src: full, tokens: []api.Token{name(0, full)}},
		{src: "a123456789012345", tokens: []api.Token{name(0, "a123456789012345")}},
		{src: long, tokens: []api.Token{name(0, "a")}},
		{src: strings.Repeat("#", api.MaxSource)},
		{src: strings.Repeat(" ", api.MaxSource-1) + "a", tokens: []api.Token{name(api.MaxSource-1, "a")}},
	}
}

func wrong() []answer {
	over := strings.Repeat("a", api.MaxName+1)
	return []answer{
		{src: "5a 5.", tokens: []api.Token{number(0, "5", 5), name(1, "a"), number(3, "5", 5)}, e: api.ErrSign, at: 4},
		{src: "x = 007;", tokens: []api.Token{name(0, "x"), sign(2, "=")}, e: api.ErrNumber, at: 4},
		{src: "00", e: api.ErrNumber},
		{src: "01", e: api.ErrNumber},
		{src: "9223372036854775808", e: api.ErrNumber},
		{src: "18446744073709551616", e: api.ErrNumber},
		{src: "1 09223372036854775807", tokens: []api.Token{number(0, "1", 1)}, e: api.ErrNumber, at: 2},
		{src: strings.Repeat("1", api.MaxSource), e: api.ErrNumber},
		{src: "&", e: api.ErrSign},
		{src: "X", e: api.ErrSign},
		{src: "aB", tokens: []api.Token{name(0, "a")}, e: api.ErrSign, at: 1},
		{src: "a_b", tokens: []api.Token{name(0, "a")}, e: api.ErrSign, at: 1},
		{src: "&&&", tokens: []api.Token{sign(0, "&&")}, e: api.ErrSign, at: 2},
		{src: "|", e: api.ErrSign},
		{src: "| |", e: api.ErrSign},
		{src: "...", tokens: []api.Token{sign(0, "..")}, e: api.ErrSign, at: 2},
		{src: ". .", e: api.ErrSign},
		{src: "1.5", tokens: []api.Token{number(0, "1", 1)}, e: api.ErrSign, at: 1},
		{src: "a\x00", tokens: []api.Token{name(0, "a")}, e: api.ErrSign, at: 1},
		{src: "\xc3\xa4", e: api.ErrSign},
		{src: "\u00a0a", e: api.ErrSign},
		{src: "\va", e: api.ErrSign},
		{src: "# c\n\f", e: api.ErrSign, at: 4},
		{src: over, e: api.ErrBytes},
		{src: "if " + over + " &", tokens: []api.Token{word(0, "if")}, e: api.ErrBytes, at: 3},
		{src: "& " + over, e: api.ErrSign},
		{src: "a23456789012345678", e: api.ErrBytes},
		{src: strings.Repeat("a", api.MaxSource), e: api.ErrBytes},
	}
}

// P1.1: what a source too long is told of comes ahead of any other error in it.
func tooLong() []answer {
	fill := strings.Repeat(" ", api.MaxSource)
	var out []answer
	for _, src := range []string{"a" + fill, "&" + fill, "007" + fill, fill + "&", fill + "a", strings.Repeat("#", api.MaxSource+1), strings.Repeat("a", 2*api.MaxSource)} {
		out = append(out, answer{src: src, e: api.ErrBytes, at: api.MaxSource})
	}
	return out
}

func everything() []answer {
	return slices.Concat(ordinary(), edges(), wrong(), tooLong())
}

// P1.1
func TestAll(t *testing.T) {
	for _, c := range everything() {
		got, e, at := scan.All(c.src)
		want := c.tokens
		if c.e != api.OK {
			want = nil
		}
		if !slices.Equal(got, want) || e != c.e || at != c.at {
			t.Errorf("%.40q: %v, %d at %d; not %v, %d at %d", c.src, got, e, at, want, c.e, c.at)
		}
	}
}

// P1.1, P1.2: every sign alone, every two of them side by side, and every word.
func TestSignsAndWords(t *testing.T) {
	signs := strings.Fields(allSigns)
	for _, a := range signs {
		if got, e, _ := scan.All(a); e != api.OK || !slices.Equal(got, []api.Token{sign(0, a)}) {
			t.Errorf("%q: %v, %d", a, got, e)
		}
		for _, b := range signs {
			want := []api.Token{sign(0, a), sign(len(a)+1, b)}
			if got, e, _ := scan.All(a + " " + b); e != api.OK || !slices.Equal(got, want) {
				t.Errorf("%q, %q: %v, %d", a, b, got, e)
			}
		}
	}
	for _, w := range strings.Fields(allWords) {
		if got, e, _ := scan.All(w); e != api.OK || !slices.Equal(got, []api.Token{word(0, w)}) {
			t.Errorf("%q: %v, %d", w, got, e)
		}
	}
}

// P1.1: which byte, alone, begins a token, and of which kind.
func TestEachByte(t *testing.T) {
	for b := range 256 {
		s := string([]byte{byte(b)})
		kind := 0
		switch {
		case strings.Contains(" \t\n\r#", s):
			kind = -1
		case b >= 'a' && b <= 'z':
			kind = api.TokName
		case b >= '0' && b <= '9':
			kind = api.TokNumber
		case slices.Contains(strings.Fields(allSigns), s):
			kind = api.TokSign
		}
		got, e, at := scan.All(s)
		if kind == 0 && (e != api.ErrSign || len(got) != 0) || kind != 0 && e != api.OK || at != 0 {
			t.Errorf("%q: %v, %d at %d", s, got, e, at)
		}
		if kind == -1 && len(got) != 0 || kind > 0 && (len(got) != 1 || got[0].Kind != kind) {
			t.Errorf("%q: %v", s, got)
		}
	}
}

// P1.2
func TestTokens(t *testing.T) {
	for _, c := range everything() {
		seq := scan.Tokens(c.src)
		for range 3 {
			if got := slices.Collect(seq); !slices.Equal(got, c.tokens) {
				t.Errorf("%.40q: %v, not %v", c.src, got, c.tokens)
			}
		}
	}
}

// P1.2: left at any token, it asks for no further one, and begins anew.
func TestTokensLeft(t *testing.T) {
	for _, c := range everything() {
		seq := scan.Tokens(c.src)
		for leave := 1; leave <= len(c.tokens); leave++ {
			var got []api.Token
			seq(func(x api.Token) bool {
				got = append(got, x)
				return len(got) < leave
			})
			if !slices.Equal(got, c.tokens[:leave]) {
				t.Errorf("%.40q, left at %d: %v", c.src, leave, got)
			}
			if again := slices.Collect(seq); !slices.Equal(again, c.tokens) {
				t.Errorf("%.40q, after it was left at %d: %v", c.src, leave, again)
			}
		}
	}
}

// P1.2: one that is gone through within its own going through.
func TestTokensWithin(t *testing.T) {
	seq := scan.Tokens("a b c &")
	want := []api.Token{name(0, "a"), name(2, "b"), name(4, "c")}
	n := 0
	for x := range seq {
		if x != want[n] {
			t.Errorf("token %d: %v", n, x)
		}
		n++
		if got := slices.Collect(seq); !slices.Equal(got, want) {
			t.Errorf("within, at %d: %v", n, got)
		}
	}
	if n != len(want) {
		t.Errorf("%d tokens", n)
	}
}

// P1.3
func TestWordAndName(t *testing.T) {
	for _, s := range strings.Fields(allWords) {
		if !scan.Word(s) || scan.Name(s) {
			t.Errorf("%q is a word, and no name", s)
		}
		for _, x := range []string{s + "x", s + "0", "x" + s, s[1:]} {
			if scan.Word(x) || !scan.Name(x) {
				t.Errorf("%q is a name, and no word", x)
			}
		}
		for _, x := range []string{s + " ", " " + s, strings.ToUpper(s), s + "\x00"} {
			if scan.Word(x) || scan.Name(x) {
				t.Errorf("%q is neither a word nor a name", x)
			}
		}
	}
	for _, s := range []string{"a", "z", "a0", "z9z9", "while", strings.Repeat("z", api.MaxName), "a" + strings.Repeat("9", api.MaxName-1)} {
		if scan.Word(s) || !scan.Name(s) {
			t.Errorf("%q is a name, and no word", s)
		}
	}
	for _, s := range []string{"", "0", "1a", "A", "aB", "a b", "a_", "a\n", "\xe9", "a\xe9", "`", "{", "a`", "a{", "a/", "a:", "..", strings.Repeat("z", api.MaxName+1), strings.Repeat("z", 1<<20)} {
		if scan.Word(s) || scan.Name(s) {
			t.Errorf("%.40q is neither a word nor a name", s)
		}
	}
}
