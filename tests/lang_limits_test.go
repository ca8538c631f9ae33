package tests

import (
	"strings"
	"testing"

	"loop.example/s01311/impl"
)

func TestMaxSource(t *testing.T) {
	rule := "(rule a 0 (b) =>)"
	full := rule + strings.Repeat(" ", impl.MaxSource-len(rule))
	wantRules(t, textRow{full, 0, 0})
	wantRules(t, textRow{full + " ", impl.ParseLimit, 0})
	wantRules(t, textRow{strings.Repeat("\x00", impl.MaxSource), impl.ParseByte, 0})
	wantRules(t, textRow{strings.Repeat("\x00", impl.MaxSource+1), impl.ParseLimit, 0})
	wantRules(t, textRow{strings.Repeat("(", 100000), impl.ParseLimit, 0})
	wantRules(t, textRow{strings.Repeat("(", impl.MaxSource), impl.ParseForm, 1})
	wantRules(t, textRow{strings.Repeat("a", impl.MaxSource), impl.ParseWord, 0})
	wantRules(t, textRow{";" + strings.Repeat("(", impl.MaxSource-1), 0, 0})
	wantRules(t, textRow{";" + strings.Repeat("(", impl.MaxSource), impl.ParseLimit, 0})
	wantRules(t, textRow{"(rule" + strings.Repeat("\n", impl.MaxSource-5), impl.ParseForm, impl.MaxSource})
	script := "(run 1)" + strings.Repeat("\t", impl.MaxSource-7)
	wantScript(t, textRow{script, 0, 0})
	wantScript(t, textRow{script + "\t", impl.ParseLimit, 0})
	wantScript(t, textRow{"No" + script, impl.ParseLimit, 0})
}

func TestMaxRules(t *testing.T) {
	text := times(impl.MaxRules, "(rule r# 0 (b) =>)")
	if n := len(rulesOf(t, text)); n != impl.MaxRules {
		t.Fatal(n)
	}
	wantRules(t, marked(text+"@(rule r 0 (b) =>)", impl.ParseLimit))
	wantRules(t, marked(text+" @(", impl.ParseLimit))
	wantRules(t, marked(text+" @( \x00", impl.ParseLimit))
	wantRules(t, marked(text+" @)", impl.ParseForm))
	wantRules(t, marked(text+" @rule", impl.ParseForm))
	wantRules(t, marked(text+" @Rule", impl.ParseWord))
	wantRules(t, marked(text+" @\x01(", impl.ParseByte))
	wantRules(t, textRow{text + " ;(", 0, 0})
}

func TestMaxPats(t *testing.T) {
	text := "(rule a 0 " + times(impl.MaxPats/2, "(b)(not c)")
	if r := rulesOf(t, text+"=>)")[0]; len(r.Pats) != impl.MaxPats {
		t.Fatal(r)
	}
	wantRules(t, marked(text+"@(b) =>)", impl.ParseLimit))
	wantRules(t, marked(text+"@(not b) =>)", impl.ParseLimit))
	wantRules(t, marked(text+"@(", impl.ParseLimit))
	wantRules(t, marked(text+"@b =>)", impl.ParseForm))
	wantRules(t, marked(text+"@)", impl.ParseForm))
	wantRules(t, marked(text+"@0a", impl.ParseWord))
	wantRules(t, marked(text+"@", impl.ParseForm))
	both := text + "=>)(rule b 0 " + times(impl.MaxPats, "(b)")
	wantRules(t, textRow{both + "=>)", 0, 0})
	wantRules(t, marked(both+"@(b) =>)", impl.ParseLimit))
}

func TestMaxActs(t *testing.T) {
	text := "(rule a 0 => " + times(impl.MaxActs/4, "(add b)(drop 1)(mod 1)(halt)")
	if r := rulesOf(t, text+")")[0]; len(r.Acts) != impl.MaxActs {
		t.Fatal(r)
	}
	wantRules(t, marked(text+"@(halt))", impl.ParseLimit))
	wantRules(t, marked(text+"@(", impl.ParseLimit))
	wantRules(t, marked(text+"@halt)", impl.ParseForm))
	wantRules(t, marked(text+"@=>)", impl.ParseForm))
	wantRules(t, marked(text+"@-0)", impl.ParseWord))
	wantRules(t, marked(text+"@", impl.ParseForm))
	wantRules(t, textRow{text + ")(rule b 0 => " + times(impl.MaxActs, "(halt)") + ")", 0, 0})
}

func TestMaxCmds(t *testing.T) {
	text := times(impl.MaxCmds/4, "(assert a #)(retract #)(modify 1 #)(run #)")
	c := impl.ParseScript([]byte(text))
	if c.Code != 0 || c.Pos != 0 || len(c.List) != impl.MaxCmds {
		t.Fatal(c.Code, c.Pos, len(c.List))
	}
	wantScript(t, marked(text+"@(run 1)", impl.ParseLimit))
	wantScript(t, marked(text+" @(", impl.ParseLimit))
	wantScript(t, marked(text+" @run", impl.ParseForm))
	wantScript(t, marked(text+" @)", impl.ParseForm))
	wantScript(t, marked(text+" @?", impl.ParseWord))
}

// Any word but ')' is behind the limit, those too that cannot stand there.
func TestMaxSlots(t *testing.T) {
	six := " 1 x 2 y 3 z"
	lists := []struct{ before, after string }{
		{"(rule a 0 (b" + six, ") =>)"},
		{"(rule a 0 (not b" + six, ") =>)"},
		{"(rule a 0 (b) => (add c" + six, "))"},
		{"(rule a 0 (b) => (mod 1" + six, "))"},
		{"(rule a 0 (b ?x _ (< 1) (= ?x) ?x 1", ") =>)"},
		{"(rule a 0 (b) => (add c ?x (+ 1 2) (+ 1 (* 2 3)) ?x 1 y", "))"},
	}
	for _, l := range lists {
		wantRules(t, textRow{l.before + l.after, 0, 0})
		for _, w := range []string{"1", "x", "?x", "_", "(", "(< 1)", "(+ 1 2)", "=>", "=", "+", "not"} {
			wantRules(t, marked(l.before+" @"+w+l.after, impl.ParseLimit))
		}
		wantRules(t, marked(l.before+" @01"+l.after, impl.ParseWord))
		wantRules(t, marked(l.before+" @\x02"+l.after, impl.ParseByte))
		wantRules(t, marked(l.before+" ;\n@", impl.ParseForm))
	}
	for _, before := range []string{"(assert b" + six, "(modify 1" + six} {
		wantScript(t, textRow{before + ")(run 1)", 0, 0})
		for _, w := range []string{"1", "x", "?x", "_", "(", "=>", "=", "+"} {
			wantScript(t, marked(before+" @"+w+")", impl.ParseLimit))
		}
		wantScript(t, marked(before+" @X)", impl.ParseWord))
		wantScript(t, marked(before+"@", impl.ParseForm))
	}
}

func TestMaxDepth(t *testing.T) {
	for _, second := range []bool{false, true} {
		text := "(rule a 0 (b) => (add c " + nested(impl.MaxDepth, second) + "))"
		r := rulesOf(t, text)[0]
		if len(r.Exprs) != 2*impl.MaxDepth+1 || impl.CheckRules([]impl.Rule{r}) != (impl.Check{}) {
			t.Fatal(r)
		}
		deep := nested(impl.MaxDepth+1, second)
		at := strings.LastIndex(deep, "(")
		wantRules(t, marked("(rule a 0 (b) => (add c "+deep[:at]+"@"+deep[at:]+"))", impl.ParseLimit))
		wantRules(t, marked("(rule a 0 (b) => (mod 1 2 "+deep[:at]+"@(", impl.ParseLimit))
		wantRules(t, marked("(rule a 0 (b) => (mod 1 2 "+deep[:at]+"@)", impl.ParseForm))
		wantRules(t, marked("(rule a 0 (b) => (mod 1 2 "+deep[:at]+"@+ 1 2)", impl.ParseForm))
	}
	twice := "(rule a 0 (b) => (add c (+ " + nested(impl.MaxDepth-1, true) + " 7) (+ 1 2)))"
	wantRules(t, textRow{twice, 0, 0})
}

// fifty is a rule that has begun fifty exprs and ended as many.
var fifty = "(rule a 0 (b) => " + times(5, "(add c (+ 1 2) (+ 3 4) (+ 5 6) x)")

func TestMaxExprs(t *testing.T) {
	if r := rulesOf(t, fifty+")")[0]; len(r.Exprs) != 50 {
		t.Fatal(len(r.Exprs))
	}
	sixty := fifty + "(mod 1 (+ 1 2) (+ 3 4) (+ 5 6) x"
	if r := rulesOf(t, sixty+")(drop 1)(add c))")[0]; len(r.Exprs) != impl.MaxExprs {
		t.Fatal(len(r.Exprs))
	}
	for _, w := range []string{"1", "x", "?x", "(", "(+ 1 2)", "_", "=>", "<", "*"} {
		wantRules(t, marked(sixty+")(add c @"+w+"))", impl.ParseLimit))
		wantRules(t, marked(sixty+" @"+w+"))", impl.ParseLimit))
	}
	wantRules(t, marked(sixty+")(add c @X))", impl.ParseWord))
	wantRules(t, marked(sixty+")(add c @\x03))", impl.ParseByte))
	wantRules(t, marked(sixty+")(add c @", impl.ParseForm))
	wantRules(t, marked(sixty+")(@x c))", impl.ParseForm))
	wantRules(t, textRow{sixty + "))" + strings.Replace(sixty, "rule a", "rule b", 1) + "))", 0, 0})
}

// The limit counts the exprs that have begun, whether they have ended or not.
func TestMaxExprsCountsWhatHasBegun(t *testing.T) {
	for _, begun := range []string{
		"(mod 1 (+ (+ (+ (+ (+ 1 2) 3) 4) 5)",
		"(mod 1 1 2 3 4 5 (+ (+ (+ (+ (+",
		"(mod 1 1 2 3 4 5 (+ (+ (+ (+ 1",
		"(mod 1 1 2 3 (+ 1 2) (+ 1 2) (*",
		"(mod 1 1 2)(mod 1 (+ (+ (+ (+ 1 2) 3) (+",
	} {
		for _, w := range []string{"6", "x", "?x", "(", "_", "=>", "<", "+"} {
			wantRules(t, marked(fifty+begun+" @"+w, impl.ParseLimit))
		}
		wantRules(t, marked(fifty+begun+" @)", impl.ParseForm))
		wantRules(t, marked(fifty+begun+" @-0", impl.ParseWord))
		wantRules(t, marked(fifty+begun+" @", impl.ParseForm))
	}
	wantRules(t, marked(fifty+"(mod 1 1 2 3 (+ 1 2) (+ 1 2) (@7", impl.ParseForm))
	wantRules(t, marked(fifty+"(mod 1 1 2 3 (+ 1 2) (+ 1 2) (@(", impl.ParseForm))
	wantRules(t, textRow{fifty + "(mod 1 0 (+ (+ (+ (+ 1 2) 3) 4) 5)))", 0, 0})
}
