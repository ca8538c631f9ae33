package tests

import (
	"fmt"
	"strconv"
	"strings"
	"testing"

	"loop.example/s01311/impl"
)

// same compares by a text in which an empty list and nil look alike.
func same(a, b any) bool {
	return fmt.Sprintf("%+v", a) == fmt.Sprintf("%+v", b)
}

// A textRow is a text and the fault that the document asks for.
type textRow struct {
	text string
	code int
	pos  int
}

func wantRules(t *testing.T, row textRow) {
	t.Helper()
	p := impl.ParseRules([]byte(row.text))
	if p.Code != row.code || p.Pos != row.pos {
		t.Errorf("%q: code %d at %d, asked for %d at %d", row.text, p.Code, p.Pos, row.code, row.pos)
	}
	if p.Code != impl.ParseOK && len(p.Rules) != 0 {
		t.Errorf("%q: a fault and %d rules", row.text, len(p.Rules))
	}
}

func wantScript(t *testing.T, row textRow) {
	t.Helper()
	c := impl.ParseScript([]byte(row.text))
	if c.Code != row.code || c.Pos != row.pos {
		t.Errorf("%q: code %d at %d, asked for %d at %d", row.text, c.Code, c.Pos, row.code, row.pos)
	}
	if c.Code != impl.ParseOK && len(c.List) != 0 {
		t.Errorf("%q: a fault and %d commands", row.text, len(c.List))
	}
}

// marked takes the place of the fault from a '@' in the text.
func marked(text string, code int) textRow {
	pos := strings.Index(text, "@")
	return textRow{strings.Replace(text, "@", "", 1), code, pos}
}

func rulesOf(t *testing.T, text string) []impl.Rule {
	t.Helper()
	p := impl.ParseRules([]byte(text))
	if p.Code != impl.ParseOK || p.Pos != 0 {
		t.Fatalf("%q: code %d at %d", text, p.Code, p.Pos)
	}
	return p.Rules
}

func checkOf(t *testing.T, text string) impl.Check {
	t.Helper()
	return impl.CheckRules(rulesOf(t, text))
}

// times writes a text over and over, each '#' in it being the number, from 0.
func times(n int, text string) string {
	var out strings.Builder
	for i := range n {
		out.WriteString(strings.ReplaceAll(text, "#", strconv.Itoa(i)))
	}
	return out.String()
}

// nested is an expr with as many operations, one in the other, the first or the
// second part of each.
func nested(depth int, second bool) string {
	if second {
		return strings.Repeat("(+ 1 ", depth) + "0" + strings.Repeat(")", depth)
	}
	return strings.Repeat("(+ ", depth) + "0" + strings.Repeat(" 1)", depth)
}

func termAny() impl.Term                 { return impl.Term{Kind: impl.TermAny} }
func termVar(name string) impl.Term      { return impl.Term{Kind: impl.TermVar, Var: name} }
func termConst(v impl.Value) impl.Term   { return impl.Term{Kind: impl.TermConst, Val: v} }
func testVar(op int, s string) impl.Term { return impl.Term{Kind: impl.TermTest, Op: op, Var: s} }
func exprConst(v impl.Value) impl.Expr   { return impl.Expr{Kind: impl.ExprConst, Val: v} }
func exprVar(name string) impl.Expr      { return impl.Expr{Kind: impl.ExprVar, Var: name} }
func exprOp(op byte, a, b int) impl.Expr { return impl.Expr{Kind: impl.ExprOp, Op: op, A: a, B: b} }
func actDrop(k int) impl.Action          { return impl.Action{Kind: impl.ActDrop, K: k} }
func actHalt() impl.Action               { return impl.Action{Kind: impl.ActHalt} }
func actMod(k int, a ...int) impl.Action { return impl.Action{Kind: impl.ActMod, K: k, Args: a} }
func actAdd(c string, a ...int) impl.Action {
	return impl.Action{Kind: impl.ActAdd, Cls: c, Args: a}
}

func testVal(op int, v impl.Value) impl.Term {
	return impl.Term{Kind: impl.TermTest, Op: op, Val: v}
}

func positive(cls string, terms ...impl.Term) impl.Pattern {
	return impl.Pattern{Cls: cls, Terms: terms}
}

func negated(cls string, terms ...impl.Term) impl.Pattern {
	return impl.Pattern{Neg: true, Cls: cls, Terms: terms}
}
