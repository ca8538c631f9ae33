package tests

import (
	"testing"

	"loop.example/s01311/impl"
)

const matchText = "(rule p 0 (a ?x 1 (> ?x)) (not b ?x) (a ?y 1 (>= ?y)) (c) => (add c ?x))(rule q 0 (a ?x 1 (> ?x)) (not c ?x) (a _ _ _) =>)"

func matchFacts(t *testing.T) []impl.Fact {
	return factsOf(t, "a 1 1 2; c; a 3 1 4; b 7; a 1 1 2; c")
}

func matchOps(t *testing.T) []impl.WmOp {
	return opsOf(t, "(assert a 1 1 2)(assert c)(assert a 3 1 4)(assert b 3)(modify 1 3 1 9)(assert c)(retract 4)(modify 2)")
}

func facesOfAlpha(a impl.Alpha) face {
	return faceOf("tests", a.Tests, impl.AlphaTest{Slot: 77}, func(x impl.AlphaTest) any { return x })
}

func facesOfNumbers(name string, lists [][]int) []face {
	out := []face{faceOf(name, lists, []int{77}, func(list []int) any { return len(list) })}
	for _, list := range lists {
		out = append(out, faceOf("numbers", list, 77, func(n int) any { return n }))
	}
	return out
}

func facesOfNet(n impl.Net) []face {
	out := []face{faceOf("alphas", n.Alphas, impl.Alpha{Cls: "scrawl"}, func(a impl.Alpha) any { return a.Cls })}
	for _, a := range n.Alphas {
		out = append(out, facesOfAlpha(a))
	}
	return append(out, facesOfNumbers("of", n.Of)...)
}

func facesOfInsts(list []impl.Inst) []face {
	out := []face{faceOf("insts", list, impl.Inst{Rule: 77}, func(x impl.Inst) any { return x.Rule })}
	for _, x := range list {
		out = append(out, faceOf("tags", x.Tags, 77, func(n int) any { return n }))
	}
	return out
}

func facesOfSteps(steps []impl.Step) []face {
	out := []face{faceOf("steps", steps, impl.Step{Code: 77}, func(s impl.Step) any { return s.Code })}
	for _, s := range steps {
		out = append(out, facesOfInsts(s.Adds)...)
		out = append(out, facesOfInsts(s.Drops)...)
	}
	return out
}

func TestListsOfNetsShareNothing(t *testing.T) {
	rules := checkedRules(t, matchText)
	wantApart(t, func() []face { return facesOfNet(impl.AlphaNet(rules)) })
	n := impl.AlphaNet(rules)
	wantApart(t, func() []face { return facesOfNumbers("memories", impl.AlphaMems(n, matchFacts(t))) })
	if got := impl.AlphaMems(n, matchFacts(t)); len(got) < 3 || len(got[0]) != 3 {
		t.Error(got)
	}
}

func TestListsOfMatchesShareNothing(t *testing.T) {
	rules, facts := checkedRules(t, matchText), matchFacts(t)
	if n := len(impl.Conflict(rules, facts)); n < 10 {
		t.Fatal(n)
	}
	wantApart(t, func() []face { return facesOfInsts(impl.Conflict(rules, facts)) })
	for _, modes := range [][]int{{0, 0}, {1, 1}, {0, 1}} {
		wantApart(t, func() []face { return facesOfSteps(impl.Follow(rules, modes, 9, false, matchOps(t))) })
	}
}

// A bundle has all arguments of the calls below.
type bundle struct {
	rules []impl.Rule
	net   impl.Net
	facts []impl.Fact
	tags  []int
	modes []int
	ops   []impl.WmOp
}

// newBundle has lists with memory to spare behind them.
func newBundle(t *testing.T) bundle {
	rules := checkedRules(t, matchText)
	b := bundle{rules: rules, net: impl.AlphaNet(rules), facts: matchFacts(t), tags: []int{1, 3, 2, 0, 0}[:3], modes: []int{0, 1, 1, 0}[:2], ops: matchOps(t)}
	b.rules = append(b.rules, impl.Rule{})[:len(b.rules)]
	b.facts = append(b.facts, newFact(9, "z"))[:len(b.facts)]
	b.ops = append(b.ops, impl.WmOp{Kind: 9})[:len(b.ops)]
	for i, f := range b.facts {
		b.facts[i].Slots = append(f.Slots, number(99))[:len(f.Slots)]
	}
	return b
}

// calls tells the answers of all functions of the two chapters.
func (b bundle) calls() []any {
	r := b.rules[0]
	alphas := []any{impl.AlphaOf(r.Pats[0]), impl.AlphaOf(r.Pats[1]), impl.AlphaPass(b.net.Alphas[0], b.facts[0]), impl.AlphaNet(b.rules), impl.AlphaMems(b.net, b.facts)}
	return append(alphas, impl.Holds(r, b.facts, b.tags), impl.Bindings(r, b.facts, b.tags), impl.Tokens(r, b.facts), impl.Conflict(b.rules, b.facts),
		impl.Follow(b.rules, b.modes, 9, false, b.ops))
}

// spare shows what lies behind the lists too.
func (b bundle) spare() []any {
	out := []any{whole(b.rules), b.net, whole(b.facts), whole(b.tags), whole(b.modes), whole(b.ops)}
	for _, f := range b.facts {
		out = append(out, whole(f.Slots))
	}
	return out
}

func TestMatchingWritesToNoArgument(t *testing.T) {
	b := newBundle(t)
	if !same(b.spare(), newBundle(t).spare()) {
		t.Fatal("two bundles differ")
	}
	first := b.calls()
	if !same(b.spare(), newBundle(t).spare()) {
		t.Error("an argument is written to")
	}
	if !same(first, b.calls()) {
		t.Error("a second call answers another thing")
	}
}

// ruin writes over all lists that were handed in.
func (b bundle) ruin() {
	for _, f := range facesOfRules(b.rules) {
		f.write()
	}
	for _, f := range facesOfNet(b.net) {
		f.write()
	}
	for _, f := range b.facts {
		faceOf("slots", f.Slots, symbol("scrawl"), func(v impl.Value) any { return v }).write()
	}
	for _, op := range b.ops {
		faceOf("slots", op.Slots, symbol("scrawl"), func(v impl.Value) any { return v }).write()
	}
	faceOf("facts", b.facts, newFact(77, "scrawl"), func(f impl.Fact) any { return f.Tag }).write()
	faceOf("ops", b.ops, impl.WmOp{Kind: 77}, func(op impl.WmOp) any { return op.Kind }).write()
	faceOf("tags", b.tags, 77, func(n int) any { return n }).write()
	faceOf("modes", b.modes, 77, func(n int) any { return n }).write()
}

func TestMatchingAnswersShareNothingWithArguments(t *testing.T) {
	b, fresh := newBundle(t), newBundle(t)
	answers := b.calls()
	b.ruin()
	if !same(answers, fresh.calls()) {
		t.Error("an answer lies in the memory of an argument")
	}
}

// The other way about: what is written into an answer does not reach arguments.
func TestMatchingAnswersMayBeWrittenTo(t *testing.T) {
	b := newBundle(t)
	r := b.rules[0]
	facesOfAlpha(impl.AlphaOf(r.Pats[0])).write()
	faces := facesOfNet(impl.AlphaNet(b.rules))
	faces = append(faces, facesOfNumbers("memories", impl.AlphaMems(b.net, b.facts))...)
	faces = append(faces, facesOfInsts(impl.Conflict(b.rules, b.facts))...)
	faces = append(faces, facesOfSteps(impl.Follow(b.rules, b.modes, 9, false, b.ops))...)
	faces = append(faces, faceOf("binds", impl.Bindings(r, b.facts, b.tags), impl.Bind{Var: "scrawl"}, func(x impl.Bind) any { return x }))
	for _, f := range faces {
		f.write()
	}
	if !same(b.spare(), newBundle(t).spare()) || !same(b.calls(), newBundle(t).calls()) {
		t.Error("an argument lies in the memory of an answer")
	}
}

func TestMatchingEmptyListsAndNil(t *testing.T) {
	empty := impl.Rule{Name: "r", Pats: []impl.Pattern{{Cls: "a", Terms: []impl.Term{}}}, Exprs: []impl.Expr{}, Acts: []impl.Action{}}
	none := impl.Rule{Name: "r", Pats: []impl.Pattern{{Cls: "a"}}}
	facts := []impl.Fact{{Tag: 1, Cls: "a"}, {Tag: 2, Cls: "a", Slots: []impl.Value{}}}
	for _, r := range []impl.Rule{empty, none} {
		if got := showInsts(impl.Conflict([]impl.Rule{r}, facts)); got != "0:1 0:2" {
			t.Error(got)
		}
		if !impl.AlphaPass(impl.AlphaOf(r.Pats[0]), facts[0]) || !impl.AlphaPass(impl.AlphaOf(r.Pats[0]), facts[1]) {
			t.Error("no slots and an empty list of them differ")
		}
		if impl.Tokens(r, nil) != 0 || impl.Tokens(r, []impl.Fact{}) != 0 || impl.Holds(r, []impl.Fact{}, []int{}) {
			t.Error("no facts and an empty list of them differ")
		}
		ops := []impl.WmOp{{Kind: impl.CmdAssert, Cls: "a"}, {Kind: impl.CmdAssert, Cls: "a", Slots: []impl.Value{}}}
		steps := impl.Follow([]impl.Rule{r}, []int{1}, 5, true, ops)
		if len(steps) != 2 || steps[1].Code != impl.CodeDup || steps[1].Size != 1 {
			t.Error(steps)
		}
	}
	if len(impl.Follow([]impl.Rule{}, []int{}, 1, false, []impl.WmOp{{}})) != 1 || len(impl.Follow(nil, nil, 1, false, []impl.WmOp{{}})) != 1 {
		t.Error("no rules and an empty list of them differ")
	}
	if len(impl.AlphaMems(impl.Net{Alphas: []impl.Alpha{{Cls: "a"}}}, []impl.Fact{})) != 1 || len(impl.AlphaMems(impl.Net{Alphas: []impl.Alpha{{Cls: "a"}}}, nil)) != 1 {
		t.Error("a memory for each Alpha, empty as it is")
	}
}
