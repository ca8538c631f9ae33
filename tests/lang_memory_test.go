package tests

import (
	"fmt"
	"testing"

	"loop.example/s01311/impl"
)

const memoryText = "(rule a 1 (b ?x 2 (< 3)) (not c ?x) (b) => (add d ?x (+ 1 2)) (mod 1 3 4) (drop 2) (halt))(rule b 2 (b ?x) (c ?y) => (add e ?y (* ?x ?y)) (add f 1))"

// A face is one list of an answer: a way to write over all of it and of what
// lies spare behind it, and a text of what is in it, but not in lists within.
type face struct {
	name  string
	write func()
	show  func() string
}

func faceOf[T any](name string, list []T, with T, shallow func(T) any) face {
	write := func() {
		all := whole(list)
		for i := range all {
			all[i] = with
		}
	}
	show := func() string {
		text := ""
		for _, x := range list {
			text += fmt.Sprintf("%+v ", shallow(x))
		}
		return text
	}
	return face{name, write, show}
}

func facesOfRules(rules []impl.Rule) []face {
	out := []face{faceOf("rules", rules, impl.Rule{Name: "scrawl"}, func(r impl.Rule) any { return r.Name })}
	for _, r := range rules {
		out = append(out,
			faceOf("patterns", r.Pats, positive("scrawl"), func(p impl.Pattern) any { return p.Cls }),
			faceOf("actions", r.Acts, actDrop(99), func(a impl.Action) any { return a.K }),
			faceOf("exprs", r.Exprs, exprVar("scrawl"), func(e impl.Expr) any { return e }))
		for _, p := range r.Pats {
			out = append(out, faceOf("terms", p.Terms, termVar("scrawl"), func(t impl.Term) any { return t }))
		}
		for _, a := range r.Acts {
			out = append(out, faceOf("args", a.Args, 77, func(n int) any { return n }))
		}
	}
	return out
}

func facesOfCommands(list []impl.Cmd) []face {
	out := []face{faceOf("commands", list, impl.Cmd{Cls: "scrawl"}, func(c impl.Cmd) any { return c.Cls })}
	for _, c := range list {
		out = append(out, faceOf("slots", c.Slots, symbol("scrawl"), func(v impl.Value) any { return v }))
	}
	return out
}

// wantApart writes over each list of an answer and looks at all others.
func wantApart(t *testing.T, answer func() []face) {
	t.Helper()
	for i := range answer() {
		list := answer()
		var before []string
		for _, f := range list {
			before = append(before, f.show())
		}
		list[i].write()
		for k, f := range list {
			if k != i && f.show() != before[k] {
				t.Errorf("list %d (%s) lies in the memory of list %d (%s)", k, f.name, i, list[i].name)
			}
		}
	}
}

func TestListsOfParsedRulesShareNothing(t *testing.T) {
	wantApart(t, func() []face { return facesOfRules(rulesOf(t, memoryText)) })
}

func TestListsOfCommandsShareNothing(t *testing.T) {
	text := []byte("(assert a 1 2 3)(assert b 4 5)(modify 1 6)(modify 2)(run 1)")
	wantApart(t, func() []face { return facesOfCommands(impl.ParseScript(text).List) })
}

func TestTextsAreNotKeptOrWrittenTo(t *testing.T) {
	src := append(make([]byte, 0, 1000), memoryText...)
	spare := src[len(src):cap(src)]
	got := impl.ParseRules(src)
	if string(src) != memoryText {
		t.Fatal("the text is written to")
	}
	for i := range src {
		src[i] = '('
	}
	for _, b := range spare {
		if b != 0 {
			t.Fatal("what lies behind the text is written to")
		}
	}
	if !same(got.Rules, rulesOf(t, memoryText)) {
		t.Error("the rules hang on the text's memory")
	}
	script := []byte("(assert ab cd 1)(modify 2 ef)(run 3)")
	cmds := impl.ParseScript(script)
	for i := range script {
		script[i] = ')'
	}
	if !same(cmds, impl.ParseScript([]byte("(assert ab cd 1)(modify 2 ef)(run 3)"))) {
		t.Error("the commands hang on the text's memory")
	}
}

func TestRulesAreNotWrittenTo(t *testing.T) {
	rules := rulesOf(t, memoryText)
	impl.CheckRules(rules)
	text := impl.PrintRules(rules)
	if !same(rules, rulesOf(t, memoryText)) {
		t.Fatal("the rules are written to")
	}
	again := impl.PrintRules(rules)
	for i := range whole(text) {
		whole(text)[i] = 'z'
	}
	if string(impl.PrintRules(rules)) != string(again) || !same(rules, rulesOf(t, memoryText)) {
		t.Error("an answer lies in the memory of another")
	}
}

// With nil and with an empty list in each place the answers are the same.
func TestEmptyRulesListsAndNil(t *testing.T) {
	none := impl.Rule{Name: "a", Pats: []impl.Pattern{positive("b")}, Acts: []impl.Action{actAdd("c"), actHalt()}}
	empty := impl.Rule{Name: "a", Pats: []impl.Pattern{{Cls: "b", Terms: []impl.Term{}}}, Exprs: []impl.Expr{},
		Acts: []impl.Action{{Kind: impl.ActAdd, Cls: "c", Args: []int{}}, {Kind: impl.ActHalt, Args: []int{}}}}
	a, b := impl.PrintRules([]impl.Rule{none}), impl.PrintRules([]impl.Rule{empty})
	if len(a) == 0 || string(a) != string(b) {
		t.Errorf("%q and %q", a, b)
	}
	if !same(impl.ParseRules(nil), impl.ParseRules([]byte{})) || !same(impl.ParseScript(nil), impl.ParseScript([]byte{})) {
		t.Error("no text and an empty one differ")
	}
}
