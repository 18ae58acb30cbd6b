package names_test

import (
	"fmt"
	"strings"
	"testing"

	"soffit/api"
)

// declarations has what makes x known, and what asks for it then.
var declarations = []struct {
	text string
	use  string
	by   int // how many statements it is
}{
	{"let x = 1;", "x = x;", 1},
	{"let x[2];", "x[0] = x[1];", 1},
	{"if 1 { } let x = 1;", "return x;", 2},
}

// lists has the lists of statements in which a declaration may stand, and how many statements there are ahead of it and behind it.
var lists = []struct {
	ahead, behind string
	up, down      int
}{
	{"if 1 { ", " }", 1, 0},
	{"if 1 { ", " } else { return 1; }", 1, 1},
	{"if 1 { return 1; } else { ", " }", 2, 0},
	{"switch 1 { case 1 { ", " } }", 1, 0},
	{"switch 1 { case 1 { return 1; } case 2 { ", " } case 3 { return 1; } else { return 1; } }", 2, 2},
	{"switch 1 { case 1 { return 1; } else { ", " } }", 2, 0},
	{"for i in 0..3 { ", " }", 1, 0},
}

// P4.1: a local or an array is known from behind its statement to the end of its list, and in all that lies within.
func TestKnownUntil(t *testing.T) {
	for _, d := range declarations {
		fine(t, "fn f() { "+d.text+" "+d.use+" }")
		fault(t, "fn f() { "+d.use+" "+d.text+" }", api.ErrName, 0, 1)
		for _, l := range lists {
			fine(t, "fn f() { "+l.ahead+d.text+" "+d.use+l.behind+" }")
			fine(t, "fn f() { "+d.text+l.ahead+d.use+l.behind+d.use+" }")
			fault(t, "fn f() { "+l.ahead+d.use+d.text+l.behind+" }", api.ErrName, 0, l.up+1)
			fault(t, "fn f() { "+l.ahead+d.text+l.behind+d.use+" }", api.ErrName, 0, l.up+d.by+l.down+1)
			fault(t, "fn f() { "+l.ahead+"if 1 { "+d.text+" }"+l.behind+d.use+" }", api.ErrName, 0, l.up+1+d.by+l.down+1)
			fault(t, "fn f() { "+d.text+l.ahead+d.text+l.behind+" }", api.ErrTwice, 0, 2*d.by+l.up)
			fault(t, "fn f() { "+l.ahead+d.text+d.text+l.behind+" }", api.ErrTwice, 0, 2*d.by+l.up)
			for _, e := range declarations { // a second one of the same name, of any kind, behind the first one's end
				fine(t, "fn f() { "+l.ahead+d.text+l.behind+e.text+e.use+" }")
				fine(t, "fn f() { "+l.ahead+d.text+l.behind+l.ahead+e.text+e.use+l.behind+" }")
				fine(t, "fn f() { "+l.ahead+d.text+l.behind+"for x in 0..3 { return x; } }")
			}
		}
	}
}

// P4.1: from one body of a statement nothing is known in its others.
func TestKnownBetween(t *testing.T) {
	for _, d := range declarations {
		fault(t, "fn f() { if 1 { "+d.text+" } else { "+d.use+" } }", api.ErrName, 0, 2+d.by)
		fault(t, "fn f() { switch 1 { case 1 { "+d.text+" } case 2 { "+d.use+" } } }", api.ErrName, 0, 2+d.by)
		fault(t, "fn f() { switch 1 { case 1 { "+d.text+" } case 2 { } else { "+d.use+" } } }", api.ErrName, 0, 2+d.by)
		for _, e := range declarations {
			fine(t, "fn f() { if 1 { "+d.text+" } else { "+e.text+e.use+" } "+d.text+d.use+" }")
			fine(t, "fn f() { switch 1 { case 1 { "+d.text+" } case 2 { "+e.text+e.use+" } else { "+d.text+d.use+" } } "+e.text+e.use+" }")
		}
	}
}

// P4.1: a loop's variable is known in its Body alone.
func TestKnownInLoops(t *testing.T) {
	fine(t, "fn f() { for i in 0..3 { let x = i; if i { for j in 0..i { x = i + j; } } } }")
	fault(t, "fn f() { for i in 0..3 { } return i; }", api.ErrName, 0, 2)
	fault(t, "fn f() { for i in i..3 { } }", api.ErrName, 0, 1)
	fault(t, "fn f() { for i in 0..i { } }", api.ErrName, 0, 1)
	fault(t, "fn f() { for i in 0..3 { for j in 0..j { } } }", api.ErrName, 0, 2)
	fault(t, "fn f() { for i in 0..3 { for j in 0..i { } return j; } }", api.ErrName, 0, 3)
	fault(t, "fn f() { for i in 0..3 { let i = 1; } }", api.ErrTwice, 0, 2)
	fault(t, "fn f() { for i in 0..3 { if 1 { let i[1]; } } }", api.ErrTwice, 0, 3)
	fault(t, "fn f() { for i in 0..3 { for j in 0..3 { for i in 0..3 { } } } }", api.ErrTwice, 0, 3)
	fault(t, "fn f() { for i in 0..3 { if 1 { i = 1; } } }", api.ErrFixed, 0, 3)
	fault(t, "fn f() { for i in 0..3 { for j in 0..3 { i = 1; } } }", api.ErrFixed, 0, 3)
	fine(t, "fn f() { for i in 0..3 { } for i in 0..3 { } let i = 1; i = 2; }")
	fine(t, "fn f() { for i in 0..3 { } let i[2]; i[0] = 1; }")
	fine(t, "fn f() { if 1 { let i[2]; } for i in 0..3 { return i; } }")
	fine(t, "fn f() { for i in 0..3 { for j in 0..3 { } for j in 0..3 { } } for j in 0..3 { for i in 0..3 { } } }")
}

// P4.1: a parameter is known in the whole Body, and may be written.
func TestKnownParams(t *testing.T) {
	fine(t, "fn f(a in 0..1) { a = a; if a { a = 1; } else { return a; } for i in a..a { a = i; } return a; }")
	fault(t, "fn f(a in 0..1) { let a = 1; }", api.ErrTwice, 0, 1)
	fault(t, "fn f(a in 0..1) { if 1 { let a[2]; } }", api.ErrTwice, 0, 2)
	fault(t, "fn f(a in 0..1, b in 0..1) { for b in 0..1 { } }", api.ErrTwice, 0, 1)
	fault(t, "fn f(a in 0..1) { return a[0]; }", api.ErrKind, 0, 1)
}

// P4.1: as deep as may be: a variable of each list around is known in the innermost one, and none behind it.
func TestKnownDeep(t *testing.T) {
	const deep = api.MaxDepth - 3 // so that an index in the innermost statement has the last level
	for _, head := range []string{"if 1 { ", "switch 1 { case 1 { ", "switch 1 { else { ", "for i%d in 0..1 { ", "if 1 { } else { "} {
		foot := strings.Repeat(" }", strings.Count(head, "{")-strings.Count(head, "}"))
		var up strings.Builder
		for n := range deep {
			fmt.Fprintf(&up, "let x%d = 1; ", n)
			if strings.Contains(head, "%d") {
				fmt.Fprintf(&up, head, n)
			} else {
				up.WriteString(head)
			}
		}
		down := strings.Repeat(foot, deep) + " "
		at := 2*deep + 1
		for n := range deep {
			x := fmt.Sprint("x", n)
			fine(t, "fn f() { "+up.String()+x+" = "+x+";"+down+"}")
			fault(t, "fn f() { "+up.String()+"let "+x+" = 1;"+down+"}", api.ErrTwice, 0, at)
			fault(t, "fn f() { "+up.String()+"return "+x+"[1];"+down+"}", api.ErrKind, 0, at)
			if n > 0 {
				fault(t, "fn f() { "+up.String()+down+"return "+x+"; }", api.ErrName, 0, at)
			}
		}
		fault(t, "fn f() { "+up.String()+"return x;"+down+"}", api.ErrName, 0, at)
	}
}
