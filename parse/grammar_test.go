package parse_test

import (
	"math/rand/v2"
	"regexp"
	"strings"
	"testing"

	"soffit/api"
	"soffit/parse"
	"soffit/scan"
)

// The chapter's grammar once more, as it is written there (SIGNED stands for a RANK8 behind a sign, which counts as open). It is followed by keeping all that may yet be asked for, not by deciding at each token what to read.
const grammar = `
PROGRAM: WIDEN? FN*
WIDEN: 'widen' NUM (',' NUM)* ';'
NUM: '-'? number
FN: 'fn' name '(' (PARAM (',' PARAM)*)? ')' BLOCK
PARAM: name 'in' NUM '..' NUM
BLOCK: '{' STMT* '}'
STMT: 'let' name '=' EXPR ';' | 'let' name '[' number ']' ';' | name '=' EXPR ';' | name '[' EXPR ']' '=' EXPR ';' | name '(' ARGS ')' ';' | 'if' EXPR BLOCK ('else' BLOCK)? | 'switch' EXPR '{' ('case' NUM BLOCK)* ('else' BLOCK)? '}' | 'for' name 'in' EXPR '..' EXPR BLOCK | 'break' ';' | 'return' EXPR ';'
ARGS: (EXPR (',' EXPR)*)?
EXPR: RANK2 ('?' EXPR ':' EXPR)?
RANK2: RANK3 ('||' RANK3)*
RANK3: RANK4 ('&&' RANK4)*
RANK4: RANK5 (('==' | '!=') RANK5)*
RANK5: RANK6 (('<' | '<=' | '>' | '>=') RANK6)*
RANK6: RANK7 (('+' | '-') RANK7)*
RANK7: RANK8 (('*' | '/' | '%') RANK8)*
RANK8: '-' SIGNED | '!' SIGNED | number | name | name '[' EXPR ']' | name '(' ARGS ')' | '(' EXPR ')'
SIGNED: RANK8
`

// node is a piece of the grammar: a token, a rule's name, or several pieces.
type node struct {
	what  byte // 't' token, 'r' rule, 's' one behind the other, '|' one of them, '?', '*', or 'e' the end of an open rule
	text  string
	parts []*node
}

var ended = &node{what: 'e'}

var rules, ruleTokens = readRules()

// readRules tells the grammar's rules, and all tokens in them.
func readRules() (map[string]*node, []*node) {
	all, tokens := map[string]*node{}, []*node{}
	for _, line := range strings.Split(strings.TrimSpace(grammar), "\n") {
		head, text, _ := strings.Cut(line, ":")
		r := &notation{words: regexp.MustCompile(`'[^']+'|\w+|[()?*|]`).FindAllString(text, -1), tokens: &tokens}
		all[head] = r.either()
	}
	return all, tokens
}

// notation reads the chapter's way to write rules.
type notation struct {
	words  []string
	tokens *[]*node
}

func (r *notation) next(among string) bool {
	if len(r.words) == 0 || !strings.Contains(among, r.words[0]) {
		return false
	}
	r.words = r.words[1:]
	return true
}

func (r *notation) either() *node {
	n := &node{what: '|', parts: []*node{r.behind()}}
	for r.next("|") {
		n.parts = append(n.parts, r.behind())
	}
	return n
}

func (r *notation) behind() *node {
	n := &node{what: 's'}
	for len(r.words) > 0 && !strings.Contains("|)", r.words[0]) {
		x := r.single()
		if r.next("?") {
			x = &node{what: '?', parts: []*node{x}}
		} else if r.next("*") {
			x = &node{what: '*', parts: []*node{x}}
		}
		n.parts = append(n.parts, x)
	}
	return n
}

func (r *notation) single() *node {
	if r.next("(") {
		x := r.either()
		r.next(")")
		return x
	}
	x := &node{what: 'r', text: r.words[0]}
	r.words = r.words[1:]
	if strings.ToUpper(x.text) != x.text || x.text[0] == '\'' {
		x.what = 't'
		x.text = strings.Trim(x.text, "'")
		*r.tokens = append(*r.tokens, x)
	}
	return x
}

func (n *node) takes(t api.Token) bool {
	switch n.text {
	case "name":
		return t.Kind == api.TokName
	case "number":
		return t.Kind == api.TokNumber
	}
	return t.Text == n.text
}

// cell is what must be read, then what must be read behind it; open counts what is open all the way down.
type cell struct {
	n    *node
	down *cell
	open int
}

func (c *cell) push(n *node) *cell {
	d := &cell{n: n, down: c}
	if c != nil {
		d.open = c.open
	}
	if n == ended {
		d.open++
	}
	return d
}

// model is all ways in which the tokens that were met can have been read.
type model struct {
	ways []*cell
	used []*node // the grammar's tokens that were met
}

func newModel() *model {
	var c *cell
	return &model{ways: []*cell{c.push(&node{what: 'r', text: "PROGRAM"})}}
}

// first goes to each token (nil: the end) with which what must be read may begin; deep: more than MaxOpen are open on the way to it.
func first(c *cell, deep bool, meet func(n *node, rest *cell, deep bool)) {
	if c == nil {
		meet(nil, nil, deep)
		return
	}
	rest := c.down
	switch c.n.what {
	case 't':
		meet(c.n, rest, deep)
	case 'r':
		if c.n.text == "EXPR" || c.n.text == "SIGNED" || c.n.text == "BLOCK" {
			rest = rest.push(ended)
			deep = deep || rest.open > 256
		}
		first(rest.push(rules[c.n.text]), deep, meet)
	case 's':
		for i := len(c.n.parts) - 1; i >= 0; i-- {
			rest = rest.push(c.n.parts[i])
		}
		first(rest, deep, meet)
	case '|':
		for _, x := range c.n.parts {
			first(rest.push(x), deep, meet)
		}
	case '?':
		first(rest, deep, meet)
		first(rest.push(c.n.parts[0]), deep, meet)
	case '*':
		first(rest, deep, meet)
		first(rest.push(c.n).push(c.n.parts[0]), deep, meet)
	case 'e':
		first(rest, deep, meet)
	}
}

// step takes a token, or tells what is wrong with it; then nothing has changed.
func (m *model) step(t api.Token) api.Errno {
	var ways []*cell
	e := api.ErrForm
	for _, c := range m.ways {
		first(c, false, func(n *node, rest *cell, deep bool) {
			switch {
			case deep:
				e = api.ErrDeep
			case n != nil && n.takes(t):
				m.used = append(m.used, n)
				ways = append(ways, rest)
			}
		})
	}
	if len(ways) == 0 {
		return e
	}
	m.ways = ways
	return api.OK
}

func (m *model) ends() bool {
	is := false
	for _, c := range m.ways {
		first(c, false, func(n *node, _ *cell, _ bool) { is = is || n == nil })
	}
	return is
}

// judge is what the model says of a source.
func judge(src string) (api.Errno, int) {
	tokens, e, at := scan.All(src)
	if e != api.OK {
		return e, at
	}
	m := newModel()
	for _, t := range tokens {
		if e := m.step(t); e != api.OK {
			return e, t.At
		}
	}
	if !m.ends() {
		return api.ErrShort, len(src)
	}
	return api.OK, 0
}

func judged(t *testing.T, src string) {
	t.Helper()
	e, at := judge(src)
	refused(t, src, e, at)
}

// allTokens are a name, a number, and all words and signs.
var allTokens = strings.Fields("x 7 widen fn let for in if else switch case break return ( ) { } [ ] , ; : ? = == != < <= > >= + - * / % && || ! ..")

// places are sources that have each place of the grammar among them.
var places = []string{
	"widen 1 , - 2 , 3 ; fn f ( ) { } fn g ( a in 0 .. - 1 , b in - 3 .. 4 ) { break ; }",
	"widen - 1 ; fn f ( a in 1 .. 2 ) { let x = 1 ; let t [ 3 ] ; x = 2 ; t [ x ] = 3 ; g ( ) ; g ( 1 ) ; g ( x , - 2 , t [ 1 ] ) ; return x ; } fn g ( ) { }",
	"fn f ( ) { if x { } if x { break ; } else { } if ( x ) { if 1 { x = 1 ; } else { g ( ) ; } } else { break ; break ; } }",
	"fn f ( ) { switch x { } switch x { case 1 { } } switch x { else { } } switch x { case 1 { break ; } case - 2 { } else { break ; } } break ; }",
	"fn f ( ) { for i in 0 .. 9 { } for i in - x .. x + 1 { for j in t [ 0 ] .. g ( ) { break ; } } }",
	"fn f ( ) { return a || b && c == d != e < f <= g > h >= i + j - k * l / m % n ; }",
	"fn f ( ) { return a ? b : c ? d : e ; x = a ? b ? c : d : e ; x = ( a ? b : c ) ? d : ( e ) ; }",
	"fn f ( ) { return - ! - a * ! ( - b ) - - - 1 ; return - t [ - g ( - 1 , ! x ) ] ; }",
	"fn f ( ) { return t [ t [ a + 1 ] ] + g ( g ( ) , ( g ( 1 ) ) , t [ 0 ] ) ; }",
}

// P3.1: at each place of the grammar each token, and none; also with all the rest behind it, so that the first of many faults is told.
func TestEachPlace(t *testing.T) {
	used := map[*node]bool{}
	for _, src := range places {
		words := strings.Fields(src)
		m := newModel()
		for i := range len(words) + 1 {
			ahead := strings.Join(words[:i], " ") + " "
			end, at := api.ErrShort, len(ahead)
			if m.ends() {
				end, at = api.OK, 0
			}
			refused(t, ahead, end, at)
			for _, x := range allTokens {
				n := *m
				if l, _, _ := scan.All(x); n.step(l[0]) != api.OK {
					refused(t, ahead+x, api.ErrForm, len(ahead))
					refused(t, ahead+x+" "+strings.Join(words[i:], " ")+" ) ; 7", api.ErrForm, len(ahead))
				} else if n.ends() {
					refused(t, ahead+x, api.OK, 0)
				} else {
					refused(t, ahead+x, api.ErrShort, len(ahead+x))
				}
			}
			if i < len(words) {
				l, _, _ := scan.All(words[i])
				if e := m.step(l[0]); e != api.OK {
					t.Fatalf("%q: %d", ahead+words[i], e)
				}
			}
		}
		for _, n := range m.used {
			used[n] = true
		}
		refused(t, src, api.OK, 0)
	}
	for i, n := range ruleTokens {
		if !used[n] {
			t.Errorf("no source has the grammar's token %d, %s", i, n.text)
		}
	}
}

// walk is a source at random: mostly tokens that may stand where they stand.
func walk(r *rand.Rand, length int) string {
	m := newModel()
	src := ""
	for range length {
		x := allTokens[r.IntN(len(allTokens))]
		l, _, _ := scan.All(x)
		if m.step(l[0]) == api.OK {
			src += strings.Repeat(" ", 1+r.IntN(2)) + x
		}
	}
	for range r.IntN(4) / 2 {
		src += " " + allTokens[r.IntN(len(allTokens))]
	}
	return src
}

// P3.1 against the model, on sources at random, and on these with tokens changed, left out and put in.
func TestAgainstModel(t *testing.T) {
	seen := map[api.Errno]int{}
	for seed := range uint64(400) {
		r := rand.New(rand.NewPCG(seed, 3))
		src := walk(r, 40+r.IntN(1000))
		judged(t, src)
		_, e, _ := parse.Parse(src)
		seen[e]++
		words := strings.Fields(src)
		for range 20 {
			i, x := r.IntN(len(words)+1), allTokens[r.IntN(len(allTokens))]
			j := min(i+r.IntN(2), len(words))
			judged(t, strings.Join(words[:i], " ")+" "+x+" "+strings.Join(words[j:], " "))
			judged(t, strings.Join(words[:i], " ")+" "+strings.Join(words[j:], "\n"))
		}
	}
	for _, e := range []api.Errno{api.OK, api.ErrForm, api.ErrShort} {
		if seen[e] < 5 {
			t.Errorf("%d sources with %d only", seen[e], e)
		}
	}
}

func FuzzAgainstModel(f *testing.F) {
	for _, src := range places {
		f.Add(src)
	}
	f.Fuzz(func(t *testing.T, src string) {
		if len(src) < 2000 {
			judged(t, src)
		}
	})
}
