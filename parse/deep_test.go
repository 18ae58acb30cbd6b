package parse_test

import (
	"math/rand/v2"
	"strings"
	"testing"

	"soffit/api"
)

// piece is a text that opens one more, and what closes it.
type piece struct{ ahead, behind string }

var blockPieces = []piece{
	{"if 1 {", "}"}, {"if 1 { } else {", "}"}, {"if 1 {", "} else { }"}, {"switch 1 { case 1 {", "} }"}, {"switch 1 { case 1 { } case -1 {", "} else { } }"},
	{"switch 1 { else {", "} }"}, {"for i in 0 .. 1 {", "}"}, {"x = 1 ; if x {", "} x = 1 ;"},
}

// Those that are one RANK8 may stand behind a sign; of the others only the beginning would be what the sign is for.
var (
	tightPieces = []piece{{"(", ")"}, {"-", ""}, {"!", ""}, {"t [", "]"}, {"g (", ")"}, {"g ( 1 ,", ", 1 )"}}
	loosePieces = []piece{{"1 ?", ": 1"}, {"1 ? 1 :", ""}, {"1 + (", ") * 1"}, {"( 1 ) * t [ 1 ] - - 1 || g (", ") == ! 1"}}
)

// nest is a source with a token within so many blocks and expressions, and that token's place.
func nest(blocks, exprs []piece, token string) (string, int) {
	ahead, behind := "fn f ( ) { ", " }"
	for _, p := range blocks {
		ahead += p.ahead + " "
		behind = " " + p.behind + behind
	}
	ahead, behind = ahead+"return ", " ;"+behind
	for _, p := range exprs {
		ahead += p.ahead + " "
		behind = " " + p.behind + behind
	}
	return ahead + token + behind, len(ahead)
}

func times(n int, p piece) []piece {
	var all []piece
	for range n {
		all = append(all, p)
	}
	return all
}

// met holds Parse to a nest in which just MaxOpen are open at the inmost token, if more is 0, and to ErrDeep there, if it is above.
func met(t *testing.T, blocks, exprs []piece, more int) {
	t.Helper()
	src, at := nest(blocks, exprs, "7")
	if more == 0 {
		refused(t, src, api.OK, 0)
		wrong, _ := nest(blocks, exprs, "7 7")
		refused(t, wrong, api.ErrForm, at+2)
	} else {
		refused(t, src, api.ErrDeep, at)
	}
	judged(t, src)
}

// P3.1: MaxOpen, just met and passed by one, by one kind of part alone (the function's block and the EXPR of its return are always there).
func TestOpenAlone(t *testing.T) {
	for _, p := range append(tightPieces, loosePieces...) {
		full := times(api.MaxOpen-2, p)
		met(t, nil, full, 0)
		for _, q := range tightPieces[:5] {
			met(t, nil, append(full, q), 1)
		}
	}
	for _, p := range blockPieces {
		met(t, times(api.MaxOpen-2, p), nil, 0)
		met(t, times(api.MaxOpen-1, p), nil, 1)
	}
}

// P3.1: the same by all kinds in one another.
func TestOpenMixed(t *testing.T) {
	for seed := range uint64(60) {
		r := rand.New(rand.NewPCG(seed, 5))
		var blocks, exprs []piece
		for range r.IntN(api.MaxOpen - 2) {
			blocks = append(blocks, blockPieces[r.IntN(len(blockPieces))])
		}
		sign := false
		for len(blocks)+len(exprs) < api.MaxOpen-2 {
			p := tightPieces[r.IntN(len(tightPieces))]
			if !sign && r.IntN(2) == 0 {
				p = loosePieces[r.IntN(len(loosePieces))]
			}
			sign = p.ahead == "-" || p.ahead == "!"
			exprs = append(exprs, p)
		}
		met(t, blocks, exprs, 0)
		met(t, blocks, append(exprs, tightPieces[r.IntN(5)]), 1)
	}
}

// P3.1: with MaxOpen blocks open there may stand all that has no expression; where one begins it is too deep.
func TestOpenBlocks(t *testing.T) {
	ahead := "fn f(){" + strings.Repeat("if 1{", api.MaxOpen-1)
	behind := strings.Repeat("}", api.MaxOpen)
	for _, s := range []string{"", "break;", "g();", "let t[1];", "break;let t[2];g();"} {
		refused(t, ahead+s+behind, api.OK, 0)
	}
	for _, s := range []string{"return ", "x= ", "let x= ", "t[", "g(", "if ", "switch ", "for i in "} {
		for _, x := range allTokens {
			if s+x != "g()" {
				refused(t, ahead+s+x, api.ErrDeep, len(ahead+s))
			}
		}
		refused(t, ahead+s, api.ErrShort, len(ahead+s))
	}
	refused(t, ahead+"g(;", api.ErrDeep, len(ahead)+2)
	refused(t, ahead+"g[", api.ErrShort, len(ahead)+2)
	refused(t, ahead+"x 7", api.ErrForm, len(ahead)+2)
	refused(t, ahead+"fn", api.ErrForm, len(ahead))
	less := "fn f(){" + strings.Repeat("if 1{", api.MaxOpen-2)
	for _, s := range []string{"if 1{}", "if 1{}else{}", "switch 1{case 1{}else{}}", "for i in 0..1{}", "g(1,1);t[1]=1;"} {
		refused(t, less+s+behind[1:], api.OK, 0)
	}
	refused(t, less+"if 1;", api.ErrForm, len(less)+4)
}

// P3.1: ErrDeep is asked for ahead of whether the token may stand there; the end of the source comes ahead of both.
func TestDeepFirst(t *testing.T) {
	for _, p := range append(tightPieces, loosePieces...) {
		full := times(api.MaxOpen-2, p)
		for _, q := range tightPieces[:5] {
			src, at := nest(nil, append(full, q), "")
			ahead := src[:at]
			refused(t, ahead, api.ErrShort, at)
			for _, x := range allTokens {
				if q.ahead == "g (" && x == ")" { // no EXPR begins there
					refused(t, ahead+x, api.ErrShort, at+1)
				} else {
					refused(t, ahead+x, api.ErrDeep, at)
				}
			}
		}
		src, at := nest(nil, full, "")
		refused(t, src[:at]+"*", api.ErrForm, at)
		refused(t, src[:at]+"7 7", api.ErrForm, at+2)
	}
}

// P3.1: what has ended is open no more.
func TestEnded(t *testing.T) {
	deep := func(ahead, inner, behind string) string {
		return strings.Repeat(ahead, api.MaxOpen-2) + inner + strings.Repeat(behind, api.MaxOpen-2)
	}
	nested := []string{deep("(", "1", ")"), deep("-", "1", ""), deep("t[", "1", "]"), deep("g(", "1", ")"), deep("1?", "1", ":1"), deep("1?1:", "1", "")}
	for _, s := range nested {
		refused(t, "fn f(){return "+s+";x="+s+";g();return "+s+";}fn g(){return "+s+";}", api.OK, 0)
	}
	for _, s := range nested[:4] {
		refused(t, "fn f(){return "+s+"+"+s+"*"+s+";}", api.OK, 0)
		refused(t, "fn f(){g("+s+","+s+");t["+s+"]="+s+";for i in "+s+".."+s+"{}if "+s+"{}switch "+s+"{}}", api.OK, 0)
		refused(t, "fn f(){return "+s+"?1:1;}", api.OK, 0)
		refused(t, "fn f(){return 1?"+s+":1;}", api.ErrDeep, strings.LastIndex("fn f(){return 1?"+s, "1"))
	}
	many := 2 * api.MaxOpen
	for _, s := range []string{"return -1" + strings.Repeat("- -1", many) + ";", "return (1)" + strings.Repeat("+(1)", many) + ";", "g(1" + strings.Repeat(",1", many) + ");", "return 1" + strings.Repeat("+t[1]*g(1)", many) + ";",
		strings.Repeat("if 1{}", many), strings.Repeat("if 1{}else{}", many), "switch 1{" + strings.Repeat("case 1{}", many) + "}", strings.Repeat("for i in 0..1{break;}", many), strings.Repeat("return 1;", many), strings.Repeat("return 1?1:1;", many)} {
		refused(t, "fn f(){"+s+"}", api.OK, 0)
	}
	refused(t, strings.Repeat("fn f(){}", many), api.OK, 0)
}
