package tests

import (
	"strings"
	"testing"

	"loop.example/s01311/impl"
)

func TestWhatAScriptTells(t *testing.T) {
	c := impl.ParseScript([]byte("(assert run)(assert a 1 not -9223372036854775808)\n(retract -3);(run 1)\n(retract 0)(modify 9223372036854775807)(modify 2 x 0 y)(run 300)(run -1)"))
	want := []impl.Cmd{
		{Kind: impl.CmdAssert, Cls: "run"},
		{Kind: impl.CmdAssert, Cls: "a", Slots: values(number(1), symbol("not"), number(-9223372036854775808))},
		{Kind: impl.CmdRetract, N: -3},
		{Kind: impl.CmdRetract},
		{Kind: impl.CmdModify, N: 9223372036854775807},
		{Kind: impl.CmdModify, N: 2, Slots: values(symbol("x"), number(0), symbol("y"))},
		{Kind: impl.CmdRun, N: 300},
		{Kind: impl.CmdRun, N: -1},
	}
	if c.Code != 0 || c.Pos != 0 || !same(c.List, want) {
		t.Fatalf("told\n%+v, asked for\n%+v", c, want)
	}
}

func TestScriptFormFaults(t *testing.T) {
	for _, text := range []string{
		"@run", "@)", "@assert", "@0", "@_", "@=>", "(@)", "(@(run 1))", "(@0", "(@?x)", "(@rule a 0 =>)", "(@add a)", "(@halt)", "(@not a)", "(@runs 1)",
		"(run 1) @)", "(run 1)(run 1)@run", "(run 1)(@",
		"(assert @)", "(assert @not)", "(assert @1)", "(assert @?x)", "(assert @_)", "(assert @(a))", "(assert a @_)", "(assert a @?x)", "(assert a @(+ 1 2))",
		"(assert a @=)", "(assert a 1 @=>)", "(assert a 1 @-)", "(assert a 1 @",
		"(retract @)", "(retract @x)", "(retract @?x)", "(retract @(", "(retract @-)", "(retract 1 @2)", "(retract 1 @x)", "(retract 1 @(", "(retract 1@",
		"(modify @)", "(modify @x)", "(modify @?x)", "(modify 1 @_)", "(modify 1 @?x)", "(modify 1 x @(", "(modify @", "(modify 1 2@",
		"(run @)", "(run @x)", "(run @_)", "(run @(", "(run 1 @1)", "(run 1 @x)", "(run@", "(run 1@",
	} {
		wantScript(t, marked(text, impl.ParseForm))
	}
}

func TestByteAndWordFaultsInScripts(t *testing.T) {
	words := strings.Fields("( assert a 1 x ) ( retract 2 ) ( modify 3 y ) ( run 4 )")
	for i := range len(words) + 1 {
		before, after := joined(words[:i]), joined(words[i:])
		wantScript(t, textRow{before + "\x1f" + after, impl.ParseByte, len(before)})
		wantScript(t, textRow{before + "a_b " + after, impl.ParseWord, len(before)})
		if i > 0 && words[i-1] != ")" {
			wantScript(t, textRow{before, impl.ParseForm, len(before)})
		}
	}
	wantScript(t, textRow{joined(words), 0, 0})
}
