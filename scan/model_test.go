package scan_test

import (
	"regexp"
	"slices"
	"strconv"
	"strings"
	"testing"

	"soffit/api"
	"soffit/scan"
)

// The chapter's words once more, as expressions, so that a slip in the one way of writing them shows in the other.
var (
	passed  = regexp.MustCompile(`^(?:[\x20\x09\x0a\x0d]|#[^\n]*)+`)
	letters = regexp.MustCompile(`^[a-z][a-z0-9]*`)
	digits  = regexp.MustCompile(`^[0-9]+`)
	signs   = regexp.MustCompile(`^(?:==|!=|<=|>=|&&|\|\||\.\.|[(){}\[\],;:?=<>+\-*/%!])`)
)

func model(src string) ([]api.Token, api.Errno, int) {
	var out []api.Token
	at := 0
	for {
		at += len(passed.FindString(src[at:]))
		if at == len(src) {
			return out, api.OK, 0
		}
		rest := src[at:]
		x := api.Token{At: at}
		if x.Text = letters.FindString(rest); x.Text != "" {
			x.Kind = api.TokName
			if slices.Contains(strings.Fields(allWords), x.Text) {
				x.Kind = api.TokWord
			}
			if len(x.Text) > 16 {
				return out, api.ErrBytes, at
			}
		} else if x.Text = digits.FindString(rest); x.Text != "" {
			x.Kind = api.TokNumber
			n, err := strconv.ParseUint(x.Text, 10, 63)
			if err != nil || strconv.FormatUint(n, 10) != x.Text {
				return out, api.ErrNumber, at
			}
			x.N = int64(n)
		} else if x.Text = signs.FindString(rest); x.Text != "" {
			x.Kind = api.TokSign
		} else {
			return out, api.ErrSign, at
		}
		out = append(out, x)
		at += len(x.Text)
	}
}

func against(t *testing.T, src string) {
	t.Helper()
	want, e, at := model(src)
	if got := slices.Collect(scan.Tokens(src)); !slices.Equal(got, want) {
		t.Fatalf("%q: Tokens: %v, not %v", src, got, want)
	}
	if e != api.OK {
		want = nil
	}
	if got, e2, at2 := scan.All(src); !slices.Equal(got, want) || e2 != e || at2 != at {
		t.Fatalf("%q: All: %v, %d at %d; not %v, %d at %d", src, got, e2, at2, want, e, at)
	}
}

// P1.1, P1.2: every row of up to four of these pieces.
func TestAgainstModel(t *testing.T) {
	pieces := []string{" ", "\n", "#", "a", "if", "0", "7", "9223372036854775807", "(", "=", "!", "<", "&", "|", ".", "-", "abcdefghijklmno", "Z", "\x80"}
	var grow func(src string, more int)
	grow = func(src string, more int) {
		against(t, src)
		if more == 0 {
			return
		}
		for _, p := range pieces {
			grow(src+p, more-1)
		}
	}
	grow("", 4)
}

func FuzzAgainstModel(f *testing.F) {
	for _, c := range slices.Concat(ordinary(), wrong()) {
		f.Add(c.src)
	}
	f.Fuzz(func(t *testing.T, src string) {
		if len(src) <= api.MaxSource {
			against(t, src)
		}
	})
}
