package tests

import (
	"strings"
	"testing"

	"loop.example/s01311/impl"
)

func TestConstantsOfTheLanguage(t *testing.T) {
	rows := [][2]int{
		{impl.MaxSource, 20000}, {impl.MaxRules, 16}, {impl.MaxPats, 6}, {impl.MaxPos, 3}, {impl.MaxActs, 8},
		{impl.MaxExprs, 60}, {impl.MaxDepth, 20}, {impl.MaxCmds, 200}, {impl.MaxFuel, 300},
		{impl.TermAny, 0}, {impl.TermConst, 1}, {impl.TermVar, 2}, {impl.TermTest, 3},
		{impl.OpEq, 1}, {impl.OpNe, 2}, {impl.OpLt, 3}, {impl.OpGt, 4}, {impl.OpLe, 5}, {impl.OpGe, 6},
		{impl.ExprConst, 0}, {impl.ExprVar, 1}, {impl.ExprOp, 2},
		{impl.ActAdd, 1}, {impl.ActDrop, 2}, {impl.ActMod, 3}, {impl.ActHalt, 4},
		{impl.ParseOK, 0}, {impl.ParseByte, 1}, {impl.ParseWord, 2}, {impl.ParseForm, 3}, {impl.ParseLimit, 4},
		{impl.CheckOK, 0}, {impl.CheckShape, 1}, {impl.CheckName, 2}, {impl.CheckPos, 3}, {impl.CheckVar, 4}, {impl.CheckRef, 5},
		{impl.CmdAssert, 1}, {impl.CmdRetract, 2}, {impl.CmdModify, 3}, {impl.CmdRun, 4},
	}
	for i, row := range rows {
		if row[0] != row[1] {
			t.Errorf("constant %d is %d, not %d", i, row[0], row[1])
		}
	}
}

// A byteRow is what the document asks of a byte alone in a text, ahead of a
// rule's ')' and within its name.
type byteRow struct{ alone, between, within textRow }

func rowOf(b byte) byteRow {
	at := string([]byte{b})
	row := byteRow{textRow{text: at}, textRow{text: "(rule a 0 =>" + at + ")"}, textRow{text: "(rule a" + at + "b 0 =>)"}}
	set := func(codeAlone, posAlone, codeBetween, posBetween, codeWithin, posWithin int) byteRow {
		row.alone.code, row.alone.pos = codeAlone, posAlone
		row.between.code, row.between.pos = codeBetween, posBetween
		row.within.code, row.within.pos = codeWithin, posWithin
		return row
	}
	switch {
	case strings.Contains("\t\n\r ", at):
		return set(0, 0, 0, 0, impl.ParseForm, 8)
	case b == ';':
		return set(0, 0, impl.ParseForm, 14, impl.ParseForm, 15)
	case b == '(':
		return set(impl.ParseForm, 1, impl.ParseForm, 13, impl.ParseForm, 7)
	case b == ')':
		return set(impl.ParseForm, 0, impl.ParseForm, 13, impl.ParseForm, 7)
	case b == '-' || b >= '0' && b <= '9' || b >= 'a' && b <= 'z':
		return set(impl.ParseForm, 0, impl.ParseWord, 10, 0, 0)
	case strings.Contains("_=<>+*/%", at):
		return set(impl.ParseForm, 0, impl.ParseWord, 10, impl.ParseWord, 6)
	case b >= 33 && b <= 126:
		return set(impl.ParseWord, 0, impl.ParseWord, 10, impl.ParseWord, 6)
	}
	return set(impl.ParseByte, 0, impl.ParseByte, 12, impl.ParseByte, 7)
}

func TestEveryByte(t *testing.T) {
	for b := range 256 {
		row := rowOf(byte(b))
		wantRules(t, row.alone)
		wantRules(t, row.between)
		wantRules(t, row.within)
		wantScript(t, row.alone)
	}
}

// No byte but 10 ends a comment.
func TestEveryByteInAComment(t *testing.T) {
	for b := range 256 {
		at := string([]byte{byte(b)})
		row := textRow{"(rule a 0 =>;" + at + "_\n)", 0, 0}
		if b == '\n' {
			row.code, row.pos = impl.ParseForm, 14
		}
		wantRules(t, row)
		wantRules(t, textRow{"(rule a 0 =>);" + at, 0, 0})
	}
}

func TestNumbers(t *testing.T) {
	good := map[string]int64{
		"0": 0, "1": 1, "-1": -1, "9": 9, "10": 10, "-10": -10, "100200": 100200,
		"9223372036854775807": 9223372036854775807, "-9223372036854775808": -9223372036854775808,
		"9223372036854775806": 9223372036854775806, "-9223372036854775807": -9223372036854775807,
	}
	for text, want := range good {
		r := rulesOf(t, "(rule a "+text+" (b "+text+" (< "+text+")) => (add c "+text+"))")[0]
		if r.Salience != want || r.Pats[0].Terms[0] != termConst(number(want)) ||
			r.Pats[0].Terms[1] != testVal(impl.OpLt, number(want)) || r.Exprs[0] != exprConst(number(want)) {
			t.Errorf("%s: %+v", text, r)
		}
		c := impl.ParseScript([]byte("(retract " + text + ")(modify 1 " + text + ")"))
		if c.Code != 0 || c.List[0].N != want || c.List[1].Slots[0] != number(want) {
			t.Errorf("%s: %+v", text, c)
		}
	}
	for _, text := range []string{
		"-0", "00", "01", "-01", "007", "+1", "--1", "1-", "1a", "1.0", "1_000", "0x1", "0b1", "0o7", "1e3", "-a", "0-",
		"9223372036854775808", "-9223372036854775809", "10000000000000000000", "18446744073709551616",
		"-18446744073709551615", "99999999999999999999999999999999999999",
	} {
		wantRules(t, marked("(rule a @"+text+" =>)", impl.ParseWord))
		wantRules(t, marked("(rule a 0 (b @"+text+") =>)", impl.ParseWord))
		wantScript(t, marked("(run @"+text+")", impl.ParseWord))
	}
	wantRules(t, marked("(rule a @- =>)", impl.ParseForm))
	wantScript(t, marked("(run @-)", impl.ParseForm))
	wantRules(t, marked("(rule a 0 (b @-) =>)", impl.ParseForm))
}

func TestSymbolsAndVariables(t *testing.T) {
	for _, s := range goodSymbols() {
		r := rulesOf(t, "(rule "+s+" 0 (b "+s+" ?"+s+" (= "+s+") (= ?"+s+")) => (add c "+s+" ?"+s+"))")[0]
		want := []impl.Term{termConst(symbol(s)), termVar(s), testVal(impl.OpEq, symbol(s)), testVar(impl.OpEq, s)}
		if r.Name != s || !same(r.Pats[0].Terms, want) || !same(r.Exprs, []impl.Expr{exprConst(symbol(s)), exprVar(s)}) {
			t.Errorf("%s: %+v", s, r)
		}
		if s != "not" && rulesOf(t, "(rule a 0 ("+s+") =>)")[0].Pats[0].Cls != s {
			t.Errorf("%s is a class", s)
		}
	}
	for _, s := range []string{
		"A", "aB", "a_", "a.", "a?", "?", "??a", "?A", "?1", "?-", "?a_", "?a?b", "-a", "a,", "'a", "a'", "{", "a{", "`", "a`", "a/", "a:",
		longSymbol(impl.MaxSym + 1), "?" + longSymbol(impl.MaxSym+1), longSymbol(5000),
	} {
		wantRules(t, marked("(rule @"+s+" 0 =>)", impl.ParseWord))
		wantRules(t, marked("(rule a 0 (b @"+s+") =>)", impl.ParseWord))
		wantScript(t, marked("(assert b 1 @"+s+")", impl.ParseWord))
	}
	rulesOf(t, "(rule a 0 (b ?"+longSymbol(impl.MaxSym)+") =>)")
}

func TestOtherWords(t *testing.T) {
	for _, w := range []string{"_", "=>", "=", "!=", "<", ">", "<=", ">=", "+", "*", "/", "%", "-"} {
		wantRules(t, textRow{w, impl.ParseForm, 0})
		wantScript(t, textRow{w, impl.ParseForm, 0})
	}
	for _, w := range []string{
		"__", "=>=", "==", "!", "!==", "<>", "=<", "=!", "<<", ">>", ">==", "++", "**", "//", "%%", "->", "=>>", "&", "|", "^", "~",
		"#", "$", "@", "\"", "'", ",", ".", ":", "[", "]", "\\", "{", "}", "`", "_a", "a=>", "=>a", "1<", "<1", "?x=", "-?x",
	} {
		wantRules(t, textRow{w, impl.ParseWord, 0})
		wantScript(t, textRow{w, impl.ParseWord, 0})
	}
}

// Blanks and comments count for nothing, and brackets need none around them.
func TestBlanksAndComments(t *testing.T) {
	tight := "(rule a 0(b 1(< 2)_)(not c)=>(add d(+ 1 2)x)(drop 1)(halt))(rule e 1(b)=>)"
	want := rulesOf(t, tight)
	for _, gap := range []string{" ", "\n", "\t", "\r", "\r\n", "  \t ", ";\n", " ; ( \x00\xff ;;\r\n", ";a\n;b\n"} {
		loose := gap
		for _, w := range strings.Fields(strings.NewReplacer("(", " ( ", ")", " ) ").Replace(tight)) {
			loose += w + gap
		}
		if got := rulesOf(t, loose); !same(got, want) {
			t.Errorf("with %q between words: %+v", gap, got)
		}
	}
	for _, text := range []string{"", " ", "\n\n", ";", "; ends here", ";\x00", " ; a\r; b", ";a\n", ";a\n\t;b"} {
		wantRules(t, textRow{text, 0, 0})
		wantScript(t, textRow{text, 0, 0})
		wantRules(t, textRow{"(rule a 0 =>)" + text, 0, 0})
		wantRules(t, textRow{"(rule a 0 =>" + text, impl.ParseForm, 12 + len(text)})
		wantScript(t, textRow{"(run 0" + text, impl.ParseForm, 6 + len(text)})
	}
	wantRules(t, marked("(rule a 0 => ; )\n@", impl.ParseForm))
	wantRules(t, marked("(rule a;b 0\n0 =>)@01", impl.ParseWord))
}
