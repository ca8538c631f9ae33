package tests

import (
	"strings"
	"testing"

	"loop.example/s01311/impl"
)

func TestLayout(t *testing.T) {
	r := richRule()
	bare := impl.Rule{Name: "bare", Salience: -9223372036854775808, Pats: []impl.Pattern{positive("b")}}
	want := `(rule rich -1
  (a _ 0 red ?x (< 3) (>= ?x))
  (not b ?x ?y (!= ?y))
  (c ?z (= 0))
  =>
  (add d (/ (+ 1 ?x) red) (* ?z (% 2 ?x)))
  (halt)
  (drop 2)
  (mod 1 0)
  (add e))
(rule bare -9223372036854775808
  (b)
  =>)
`
	if got := string(impl.PrintRules([]impl.Rule{r, bare})); got != want {
		t.Errorf("printed\n%s, asked for\n%s", got, want)
	}
	if out := impl.PrintRules(nil); len(out) != 0 {
		t.Errorf("no rules: printed %q", out)
	}
}

func TestEveryOperatorIsPrinted(t *testing.T) {
	text := "(rule a 0\n  (b ?x (= 1) (!= ?x) (< 1) (> ?x) (<= y))\n  (b (>= 9223372036854775807))\n  =>\n  (add c (+ 1 2) (- 1 2) (* 1 2) (/ 1 2) (% 1 2))\n  (mod 2)\n  (mod 1 -9223372036854775808 ?x))\n"
	if got := string(impl.PrintRules(rulesOf(t, text))); got != text {
		t.Errorf("printed\n%s, asked for\n%s", got, text)
	}
}

// wantBack holds checked rules against promise 2.
func wantBack(t *testing.T, rules []impl.Rule) {
	t.Helper()
	if k := impl.CheckRules(rules); k != (impl.Check{}) {
		t.Fatalf("%+v are not checked: %+v", rules, k)
	}
	text := impl.PrintRules(rules)
	if len(text) > impl.MaxSource {
		t.Fatalf("the text is too long to be parsed: %d bytes", len(text))
	}
	p := impl.ParseRules(text)
	if p.Code != impl.ParseOK || !same(p.Rules, rules) {
		t.Fatalf("of %s came %+v, asked for %+v", text, p, rules)
	}
	if again := impl.PrintRules(p.Rules); string(again) != string(text) {
		t.Fatalf("not a fixed point: %s and %s", text, again)
	}
}

func TestCheckedRulesComeBack(t *testing.T) {
	wantBack(t, nil)
	wantBack(t, []impl.Rule{richRule()})
	for depth := range impl.MaxDepth + 1 {
		wantBack(t, []impl.Rule{chain(depth, true)})
		wantBack(t, []impl.Rule{chain(depth, false)})
	}
	wantBack(t, rulesOf(t, times(impl.MaxRules, "(rule r# # (b ?x # _) (not c ?y (< ?y)) => (add d ?x (+ # ?x)) (drop 1))")))
	full := "(rule full 1 (a ?x 1 2 3 4 5)(not a ?x 1 2 3 4 5)(a ?x 1 2 3 4 5)(not a (< ?x))(a)(not a) => " + times(8, "(add b 1 2 3 4 5 6)") + ")"
	wantBack(t, rulesOf(t, full))
	wantBack(t, rulesOf(t, fifty+"(mod 1 (+ 1 2) (+ 3 4) (+ 5 6) x))"))
	for _, v := range goodValues() {
		r := richRule()
		r.Pats[0].Terms[1], r.Pats[2].Terms[1], r.Exprs[0], r.Salience = termConst(v), testVal(impl.OpNe, v), exprConst(v), v.Num
		wantBack(t, []impl.Rule{r})
	}
	for _, s := range goodSymbols() {
		r := impl.Rule{Name: s, Pats: []impl.Pattern{positive("a", termVar(s), testVar(impl.OpLt, s))}, Exprs: []impl.Expr{exprVar(s)}, Acts: []impl.Action{actAdd("a", 0)}}
		wantBack(t, []impl.Rule{r})
	}
}

// PrintRules has no limit of its own: rules that are checked are told whole,
// though a text of more than MaxSource bytes cannot be read back.
func TestLongTextsArePrintedWhole(t *testing.T) {
	long := longSymbol(impl.MaxSym - 2)
	text := times(impl.MaxRules, "(rule "+long+"# 0"+strings.Repeat("("+strings.Repeat(long+" ", 7)+")", 3)+strings.Repeat("(not "+strings.Repeat(long+" ", 7)+")", 3)+"=>"+
		strings.Repeat("(add "+strings.Repeat(long+" ", 7)+")", 8)+")")
	rules := []impl.Rule{}
	for part := range strings.SplitAfterSeq(text, "))") {
		rules = append(rules, impl.ParseRules([]byte(part)).Rules...)
	}
	out := impl.PrintRules(rules)
	if len(rules) != impl.MaxRules || impl.CheckRules(rules) != (impl.Check{}) || len(out) <= impl.MaxSource {
		t.Fatal(len(rules), impl.CheckRules(rules), len(out))
	}
	for i, r := range rules {
		if one := impl.PrintRules([]impl.Rule{r}); !strings.Contains(string(out), string(one)) || len(one) == 0 {
			t.Errorf("rule %d is not told whole", i)
		}
	}
	if p := impl.ParseRules(out); p.Code != impl.ParseLimit || p.Pos != 0 {
		t.Error(p.Code, p.Pos)
	}
}
