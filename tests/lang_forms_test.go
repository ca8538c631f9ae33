package tests

import (
	"slices"
	"strings"
	"testing"

	"loop.example/s01311/impl"
)

func TestWhatATextTells(t *testing.T) {
	text := `(rule rule -9 (mod _ 7 not ?x (= 1) (!= red))
	  (not drop (< ?x) (> -2) ?y (<= ?y) (>= x-1)) (halt)
	  => (add add (- (* 1 ?x) (/ (% 2 3) not)) ?x) (drop -1000000) (mod 1000000) (add c)
	     (mod 2 (+ a b) 5) (halt))
	(rule b 9223372036854775807 =>)`
	want := []impl.Rule{{
		Name: "rule", Salience: -9,
		Pats: []impl.Pattern{
			positive("mod", termAny(), termConst(number(7)), termConst(symbol("not")), termVar("x"),
				testVal(impl.OpEq, number(1)), testVal(impl.OpNe, symbol("red"))),
			negated("drop", testVar(impl.OpLt, "x"), testVal(impl.OpGt, number(-2)), termVar("y"),
				testVar(impl.OpLe, "y"), testVal(impl.OpGe, symbol("x-1"))),
			positive("halt"),
		},
		Exprs: []impl.Expr{
			exprConst(number(1)), exprVar("x"), exprOp('*', 0, 1), exprConst(number(2)), exprConst(number(3)),
			exprOp('%', 3, 4), exprConst(symbol("not")), exprOp('/', 5, 6), exprOp('-', 2, 7), exprVar("x"),
			exprConst(symbol("a")), exprConst(symbol("b")), exprOp('+', 10, 11), exprConst(number(5)),
		},
		Acts: []impl.Action{actAdd("add", 8, 9), actDrop(-1000000), actMod(1000000), actAdd("c"), actMod(2, 12, 13), actHalt()},
	}, {Name: "b", Salience: 9223372036854775807}}
	if got := rulesOf(t, text); !same(got, want) {
		t.Fatalf("told\n%+v, asked for\n%+v", got, want)
	}
}

// The numbers of exprs begin anew with each rule, and go on from action to action.
func TestExprsBelongToTheirRule(t *testing.T) {
	for _, r := range rulesOf(t, times(3, "(rule r# 0 => (add a 1 2) (halt) (add b) (mod 1 (+ 3 4)))")) {
		if !same(r.Acts, []impl.Action{actAdd("a", 0, 1), actHalt(), actAdd("b"), actMod(1, 4)}) || len(r.Exprs) != 5 {
			t.Fatalf("%+v", r)
		}
	}
}

func TestNumbersOfK(t *testing.T) {
	rows := map[string]int{
		"0": 0, "1": 1, "-1": -1, "1000000": 1000000, "-1000000": -1000000, "999999": 999999,
		"1000001": 0, "-1000001": 0, "4294967297": 0, "-4294967295": 0, "18446744073": 0,
		"9223372036854775807": 0, "-9223372036854775808": 0,
	}
	for text, want := range rows {
		r := rulesOf(t, "(rule a 0 => (drop "+text+") (mod "+text+" 1))")[0]
		if r.Acts[0].K != want || r.Acts[1].K != want {
			t.Errorf("%s: told as %d and %d, asked for %d", text, r.Acts[0].K, r.Acts[1].K, want)
		}
	}
}

// fullRule has each form at least once.
var fullRule = strings.Fields("( rule a 0 ( b _ c ?x ( < 2 ) ( = ?x ) ) ( not d ) => ( add e ( - 1 ?x ) f ) ( drop 1 ) ( mod 1 2 ) ( halt ) )")

func joined(words []string) string {
	text := ""
	for _, w := range words {
		text += w + " "
	}
	return text
}

func TestTextsThatEndTooEarly(t *testing.T) {
	for i := 1; i < len(fullRule); i++ {
		text := joined(fullRule[:i])
		wantRules(t, textRow{text, impl.ParseForm, len(text)})
		text = strings.TrimSpace(text)
		wantRules(t, textRow{text, impl.ParseForm, len(text)})
		wantRules(t, textRow{text + ";)", impl.ParseForm, len(text) + 2})
	}
	text := joined(fullRule)
	wantRules(t, textRow{text, 0, 0})
	wantRules(t, textRow{text + text, 0, 0})
	wantRules(t, textRow{text + "(", impl.ParseForm, len(text) + 1})
}

// A byte or a word that is none is told at any place, ahead of all else there.
func TestByteAndWordFaultsAnywhere(t *testing.T) {
	for i := range len(fullRule) + 1 {
		before := joined(fullRule[:i])
		after := joined(fullRule[i:])
		wantRules(t, textRow{before + "\x7f" + after, impl.ParseByte, len(before)})
		wantRules(t, textRow{before + "\x80", impl.ParseByte, len(before)})
		wantRules(t, textRow{before + "No " + after, impl.ParseWord, len(before)})
		wantRules(t, textRow{before + "-0", impl.ParseWord, len(before)})
	}
}

// standing says, for each word of fullRule, which kinds may stand in its place.
var standing = []string{
	"(", "rule", "sym", "num", "( =>", "sym", "_ num sym var ( )", "_ num sym var ( )", "_ num sym var ( )",
	"_ num sym var ( )", "test", "num sym var", ")", "_ num sym var ( )", "test", "num sym var", ")", "_ num sym var ( )",
	"( =>", "sym", "sym", "_ num sym var ( )", "( =>",
	"( )", "action", "sym", "num sym var ( )", "arith", "num sym var (", "num sym var (", ")", "num sym var ( )", "num sym var ( )",
	"( )", "action", "num", ")", "( )", "action", "num", "num sym var ( )", "num sym var ( )", "( )", "action", ")", "( )",
}

func TestWordsThatCannotStandThere(t *testing.T) {
	if len(standing) != len(fullRule) {
		t.Fatal(len(standing), len(fullRule))
	}
	samples := map[string]string{"num": "5", "sym": "zz", "var": "?zz", "_": "_", "=>": "=>", "test": ">=", "arith": "*", "(": "(", ")": ")"}
	for i, kinds := range standing {
		before := joined(fullRule[:i])
		for kind, w := range samples {
			if slices.Contains(strings.Fields(kinds), kind) {
				continue
			}
			wantRules(t, textRow{before + w, impl.ParseForm, len(before)})
			wantRules(t, textRow{before + w + " \x00", impl.ParseForm, len(before)})
			wantRules(t, textRow{before + w + " 00 (", impl.ParseForm, len(before)})
		}
	}
}

func TestFormFaults(t *testing.T) {
	for _, text := range []string{
		"@rule", "@)", "@_ (rule a 0 =>)", "@a", "@0", "@?x", "(@)", "(@(", "(@add a)", "(@not)", "(@0", "(@rules a 0 =>)", "(@rul",
		"(rule a 0 =>) @)", "(rule a 0 =>) @rule", "(rule a 0 =>)(@halt)", "(rule @0 0 =>)", "(rule @?a 0 =>)", "(rule @( a 0 =>)",
		"(rule a @b =>)", "(rule a @?x =>)", "(rule a @=>)", "(rule a @(b) =>)", "(rule a @- =>)", "(rule a 0 @0 =>)", "(rule a 0 @b =>)",
		"(rule a 0 @)", "(rule a 0 @_ =>)", "(rule a 0 (b) @)", "(rule a 0 => @=>)", "(rule a 0 => @b)", "(rule a 0 => @1)", "(rule a 0 => @_)",
		"(rule a 0 (@) =>)", "(rule a 0 (@1) =>)", "(rule a 0 (@?x) =>)", "(rule a 0 (@_) =>)", "(rule a 0 (@(b)) =>)", "(rule a 0 (@=>) =>)",
		"(rule a 0 (not @) =>)", "(rule a 0 (not @not) =>)", "(rule a 0 (not @(b)) =>)", "(rule a 0 (not @1) =>)", "(rule a 0 (not @_) =>)",
		"(rule a 0 (b @=>) =>)", "(rule a 0 (b @=) =>)", "(rule a 0 (b @+) =>)", "(rule a 0 (b (@)) =>)", "(rule a 0 (b (@1)) =>)",
		"(rule a 0 (b (@b)) =>)", "(rule a 0 (b (@?x)) =>)", "(rule a 0 (b (@_)) =>)", "(rule a 0 (b (@- 1)) =>)", "(rule a 0 (b (@=> 1)) =>)",
		"(rule a 0 (b (@(= 1))) =>)", "(rule a 0 (b (= @)) =>)", "(rule a 0 (b (= @_)) =>)", "(rule a 0 (b (= @=)) =>)", "(rule a 0 (b (= @(+ 1 2))) =>)",
		"(rule a 0 (b (= 1 @2)) =>)", "(rule a 0 (b (= ?x @?y)) =>)", "(rule a 0 (b (= 1 @(= 2))) =>)",
		"(rule a 0 => (@))", "(rule a 0 => (@b))", "(rule a 0 => (@not b))", "(rule a 0 => (@1))", "(rule a 0 => (@assert b))", "(rule a 0 => (@=>))", "(rule a 0 => (@(halt)))",
		"(rule a 0 => (add @))", "(rule a 0 => (add @not))", "(rule a 0 => (add @1))", "(rule a 0 => (add @?x))", "(rule a 0 => (add @(+ 1 2)))",
		"(rule a 0 => (add b @_))", "(rule a 0 => (add b @+))", "(rule a 0 => (add b @<))", "(rule a 0 => (add b @=>))",
		"(rule a 0 => (add b (@)))", "(rule a 0 => (add b (@1)))", "(rule a 0 => (add b (@< 1 2)))", "(rule a 0 => (add b (@x 1 2)))", "(rule a 0 => (add b (@(+ 1 2))))",
		"(rule a 0 => (add b (+ @)))", "(rule a 0 => (add b (+ @_ 1)))", "(rule a 0 => (add b (+ @+ 1)))", "(rule a 0 => (add b (- 1 @)))",
		"(rule a 0 => (add b (+ 1 @_)))", "(rule a 0 => (add b (+ 1 2 @3)))", "(rule a 0 => (add b (+ 1 2 @(+ 1 2))))", "(rule a 0 => (add b (+ (+ 1 @) 2)))",
		"(rule a 0 => (drop @))", "(rule a 0 => (drop @x))", "(rule a 0 => (drop @?x))", "(rule a 0 => (drop @(+ 1 2)))", "(rule a 0 => (drop 1 @2))", "(rule a 0 => (drop @-))",
		"(rule a 0 => (mod @))", "(rule a 0 => (mod @x))", "(rule a 0 => (mod @?x 1))", "(rule a 0 => (mod 1 @_))", "(rule a 0 => (mod @(+ 1 2)))",
		"(rule a 0 => (halt @1))", "(rule a 0 => (halt @halt))", "(rule a 0 => (halt @(halt)))",
	} {
		wantRules(t, marked(text, impl.ParseForm))
	}
}

// What stands behind the first fault is not looked at.
func TestOnlyTheFirstFault(t *testing.T) {
	for _, row := range []textRow{
		marked("(rule @A \x00 01 )", impl.ParseWord),
		marked("(rule a @\x00 01 A)", impl.ParseByte),
		marked("(rule a @b\x00 01)", impl.ParseForm),
		marked("(rule a 0 (not @not A) \x00", impl.ParseForm),
		marked("(rule a 0 (b 1 2 3 4 5 6 @7\x00) A", impl.ParseLimit),
		marked("(rule a 0 (b 1 2 3 4 5 6 @A 7 \x00)", impl.ParseWord),
		marked("(rule a 0 (b 1 2 3 4 5 6 @\x00 A 7)", impl.ParseByte),
		marked("(rule a 0 =>)@)\x00", impl.ParseForm),
		marked("(@a\x00", impl.ParseForm),
		marked("(rule a 0 => (@x\x00", impl.ParseForm),
	} {
		wantRules(t, row)
	}
	wantScript(t, marked("(@x\x00", impl.ParseForm))
	wantScript(t, marked("(assert @not\x00", impl.ParseForm))
	wantScript(t, marked("(run @x\x00", impl.ParseForm))
}
