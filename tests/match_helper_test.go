package tests

import (
	"strconv"
	"strings"
	"testing"

	"loop.example/s01311/impl"
)

// checkedRules parses rules and wants them checked.
func checkedRules(t *testing.T, text string) []impl.Rule {
	t.Helper()
	rules := rulesOf(t, text)
	if k := impl.CheckRules(rules); k != (impl.Check{}) {
		t.Fatalf("%q: %+v", text, k)
	}
	return rules
}

// ruleOf is a rule without actions.
func ruleOf(t *testing.T, pats string) impl.Rule {
	t.Helper()
	return checkedRules(t, "(rule r 0 "+pats+" =>)")[0]
}

func patternOf(t *testing.T, text string) impl.Pattern {
	t.Helper()
	return rulesOf(t, "(rule r 0 "+text+" =>)")[0].Pats[0]
}

// factsOf reads facts like "a 1 x; b" and gives them the tags from 1 on; words
// ahead of a ':' are a tag.
func factsOf(t *testing.T, text string) []impl.Fact {
	t.Helper()
	var facts []impl.Fact
	tag := 0
	for _, part := range strings.Split(text, ";") {
		if strings.TrimSpace(part) == "" {
			continue
		}
		tag++
		if own, rest, found := strings.Cut(part, ":"); found {
			n, err := strconv.Atoi(strings.TrimSpace(own))
			if err != nil {
				t.Fatal(err)
			}
			tag, part = n, rest
		}
		c := impl.ParseScript([]byte("(assert " + part + ")"))
		if c.Code != impl.ParseOK {
			t.Fatalf("%q: %+v", part, c)
		}
		facts = append(facts, impl.Fact{Tag: tag, Cls: c.List[0].Cls, Slots: c.List[0].Slots})
	}
	return facts
}

// opsOf reads operations as a script.
func opsOf(t *testing.T, text string) []impl.WmOp {
	t.Helper()
	c := impl.ParseScript([]byte(text))
	if c.Code != impl.ParseOK {
		t.Fatalf("%q: %+v", text, c)
	}
	var ops []impl.WmOp
	for _, x := range c.List {
		ops = append(ops, impl.WmOp{Kind: x.Kind, Tag: int(x.N), Cls: x.Cls, Slots: x.Slots})
	}
	return ops
}

func modesOf(n int, mode int) []int {
	modes := make([]int, n)
	for i := range modes {
		modes[i] = mode
	}
	return modes
}

// mixedModes are Rete and TREAT by turns, the first one as told.
func mixedModes(n int, first int) []int {
	modes := make([]int, n)
	for i := range modes {
		modes[i] = (first + i) % 2
	}
	return modes
}

// badFacts are lists that are not good, each for one reason.
func badFacts() map[string][]impl.Fact {
	over := append(manyFacts(impl.MaxFacts), newFact(impl.MaxFacts+1, "a", number(0)))
	return map[string][]impl.Fact{
		"one too many":      over,
		"falling tags":      {newFact(2, "a", number(0)), newFact(1, "a", number(0))},
		"equal tags":        {newFact(2, "a", number(0)), newFact(2, "a", number(0))},
		"tag 0":             {newFact(0, "a", number(0)), newFact(1, "a", number(0))},
		"tag below 0":       {newFact(-1, "a", number(0)), newFact(1, "a", number(0))},
		"tag too great":     {newFact(1, "a", number(0)), newFact(impl.MaxTag+1, "a", number(0))},
		"no class":          {newFact(1, "a", number(0)), newFact(2, "", number(0))},
		"bad class":         {newFact(1, "a", number(0)), newFact(2, "A", number(0))},
		"too many slots":    {newFact(1, "a", number(0)), newFact(2, "b", manySlots(impl.MaxSlots+1)...)},
		"bad value":         {newFact(1, "a", number(0)), newFact(2, "b", impl.Value{Kind: 2})},
		"number with a Sym": {newFact(1, "a", number(0)), newFact(2, "b", impl.Value{Num: 1, Sym: "x"})},
	}
}

// uncheckedRules are lists of rules of which CheckRules finds fault with the
// last, each with another code.
func uncheckedRules(t *testing.T) map[string][]impl.Rule {
	t.Helper()
	first := "(rule r 0 (a ?x) =>)"
	bad := map[string][]impl.Rule{
		"name twice":       rulesOf(t, first+"(rule r 0 (a ?x) =>)"),
		"no positive":      rulesOf(t, first+"(rule s 0 (not a 1) =>)"),
		"no pattern":       rulesOf(t, first+"(rule s 0 =>)"),
		"four positives":   rulesOf(t, first+"(rule s 0 (a _)(a _)(a _)(a _) =>)"),
		"unknown variable": rulesOf(t, first+"(rule s 0 (a (> ?x)) =>)"),
		"unknown in expr":  rulesOf(t, first+"(rule s 0 (a ?x) => (add b ?y))"),
		"wrong reference":  rulesOf(t, first+"(rule s 0 (a ?x) => (drop 2))"),
		"empty name":       append(rulesOf(t, first), impl.Rule{Pats: []impl.Pattern{positive("a", termAny())}}),
		"class not":        append(rulesOf(t, first), impl.Rule{Name: "s", Pats: []impl.Pattern{positive("not", termAny())}}),
		"wrong term":       append(rulesOf(t, first), impl.Rule{Name: "s", Pats: []impl.Pattern{positive("a", impl.Term{Kind: 9})}}),
	}
	var many []impl.Rule
	for i := range impl.MaxRules + 1 {
		many = append(many, rulesOf(t, "(rule r"+strconv.Itoa(i)+" 0 (a ?x) =>)")...)
	}
	bad["one too many"] = many
	return bad
}
