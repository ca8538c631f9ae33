package tests

import (
	"slices"
	"strconv"
	"strings"
	"testing"

	"loop.example/s01311/impl"
)

// storeOf has the facts that factsOf reads, and the tag behind the last one
// comes next.
func storeOf(t *testing.T, text string, room int, single bool) impl.Store {
	t.Helper()
	s := impl.Store{Facts: factsOf(t, text), Next: 1, Cap: room, Single: single}
	if n := len(s.Facts); n > 0 {
		s.Next = s.Facts[n-1].Tag + 1
	}
	if !impl.StoreValid(s) {
		t.Fatalf("%q is no valid store", text)
	}
	return s
}

// spoilings are ways to make a store of two facts "a 1" one that is not valid.
func spoilings() map[string]func(*impl.Store) {
	return map[string]func(*impl.Store){
		"Next 0":           func(s *impl.Store) { s.Next = 0 },
		"Next of a fact":   func(s *impl.Store) { s.Next = 2 },
		"Next too great":   func(s *impl.Store) { s.Next = impl.MaxTag + 2 },
		"Cap too small":    func(s *impl.Store) { s.Cap = 1 },
		"Cap below 0":      func(s *impl.Store) { s.Cap = -1 },
		"Cap too great":    func(s *impl.Store) { s.Cap = impl.MaxFacts + 1 },
		"two facts alike":  func(s *impl.Store) { s.Single = true },
		"the zero store":   func(s *impl.Store) { *s = impl.Store{} },
		"a bad symbol":     func(s *impl.Store) { s.Facts[1].Slots[0] = symbol("Bad") },
		"a bad class":      func(s *impl.Store) { s.Facts[1].Cls = "Bad" },
		"a tag out of row": func(s *impl.Store) { s.Facts[1].Tag = 1 },
	}
}

// showFacts writes what factsOf reads, with all tags.
func showFacts(facts []impl.Fact) string {
	var parts []string
	for _, f := range facts {
		text := strconv.Itoa(f.Tag) + ":" + f.Cls
		for _, v := range f.Slots {
			text += " " + showValue(v)
		}
		parts = append(parts, text)
	}
	return strings.Join(parts, "; ")
}

func equalFired(a, b impl.Fired) bool {
	return a.Code == b.Code && a.At == b.At && a.Halt == b.Halt && equalStores(a.Store, b.Store) && equalInsts(a.Gone, b.Gone)
}

// modelFire does the actions one by one on a store of the model, and looks at
// the whole conflict set behind each.
func modelFire(rules []impl.Rule, s impl.Store, inst impl.Inst) impl.Fired {
	ahead := modelConflict(rules, s.Facts)
	if !slices.ContainsFunc(ahead, func(x impl.Inst) bool { return showInst(x) == showInst(inst) }) {
		return impl.Fired{Code: impl.CodeBad}
	}
	r := rules[inst.Rule]
	binds, _ := modelBinds(r.Pats, s.Facts, inst.Tags)
	tags := slices.Clone(inst.Tags)
	lost := map[string]bool{}
	out := impl.Fired{Store: copyOf(s)}
	for i, a := range r.Acts {
		if a.Kind == impl.ActHalt {
			out.Halt = true
			break
		}
		c := modelAct(out.Store, a, r.Exprs, binds, tags)
		if c.Code != impl.CodeOK && !(c.Code == impl.CodeDup && a.Kind == impl.ActAdd) {
			out.Code, out.At = c.Code, i+1
			break
		}
		out.Store = c.Store
		for _, x := range missing(ahead, modelConflict(rules, out.Store.Facts)) {
			lost[showInst(x)] = true
		}
	}
	for _, x := range ahead {
		if lost[showInst(x)] {
			out.Gone = append(out.Gone, x)
		}
	}
	return out
}

// modelAct writes to tags what a mod makes of them.
func modelAct(s impl.Store, a impl.Action, exprs []impl.Expr, binds []impl.Bind, tags []int) impl.Change {
	var slots []impl.Value
	for _, n := range a.Args {
		v := modelEval(exprs, binds, n)
		if v.Code != impl.CodeOK {
			return impl.Change{Store: s, Code: v.Code}
		}
		slots = append(slots, v.Val)
	}
	switch a.Kind {
	case impl.ActAdd:
		return model(s, move{kind: 0, cls: a.Cls, slots: slots})
	case impl.ActDrop:
		return model(s, move{kind: 1, tag: tags[a.K-1]})
	}
	old := tags[a.K-1]
	c := model(s, move{kind: 2, tag: old, slots: slots})
	for i := range tags {
		if c.Code == impl.CodeOK && tags[i] == old {
			tags[i] = c.Tag
		}
	}
	return c
}

// Texts of actions of the small world.

func (d *dice) smallExpr(depth int) string {
	switch k := d.roll(6); {
	case k < 2 && depth > 0:
		return "(" + d.pick("+", "-", "*", "/", "%") + " " + d.smallExpr(depth-1) + " " + d.smallExpr(depth-1) + ")"
	case k == 2 && d.roll(6) == 0:
		return d.pick("9223372036854775807", "-9223372036854775808")
	case k < 4:
		return d.smallValue()
	}
	return d.variable()
}

func (d *dice) smallSlots(n int) string {
	text := ""
	for range n {
		text += " " + d.smallExpr(2)
	}
	return text
}

func (d *dice) smallAction() string {
	switch d.roll(9) {
	case 0, 1, 2:
		cls := d.pick("a", "a", "b")
		return "(add " + cls + d.smallSlots(d.arity(cls)) + ")"
	case 3, 4:
		return "(drop " + d.pick("1", "2", "3") + ")"
	case 5, 6, 7:
		return "(mod " + d.pick("1", "2", "3") + d.smallSlots(1+d.roll(2)) + ")"
	}
	return d.pick("(halt)", "(add c)")
}

// actingRule tries until the rule is checked.
func (d *dice) actingRule(name string) impl.Rule {
	for {
		text := "(rule " + name + " " + d.pick("0", "0", "1", "-1")
		for range 1 + d.roll(4) {
			text += " " + d.classPattern()
		}
		text += " =>"
		for range d.roll(6) {
			text += " " + d.smallAction()
		}
		rules := impl.ParseRules([]byte(text + ")")).Rules
		if impl.CheckRules(rules).Code == impl.CheckOK {
			return rules[0]
		}
	}
}

func (d *dice) actingRules(n int) []impl.Rule {
	var rules []impl.Rule
	for i := range n {
		rules = append(rules, d.actingRule("r"+strconv.Itoa(i)))
	}
	return rules
}

// smallStore is often full, now and then without tags to give, or with Single.
func (d *dice) smallStore(n int) impl.Store {
	s := impl.Store{Facts: d.smallFacts(n), Single: d.roll(3) == 0}
	if s.Single {
		s.Facts = unlike(s.Facts)
	}
	s.Next = 1
	if n := len(s.Facts); n > 0 {
		s.Next = s.Facts[n-1].Tag + 1
	}
	if d.roll(8) == 0 {
		s.Next = impl.MaxTag + 1 - d.roll(3)
	}
	s.Cap = len(s.Facts) + d.roll(4)
	return s
}

func unlike(facts []impl.Fact) []impl.Fact {
	seen := map[string]bool{}
	var out []impl.Fact
	for _, f := range facts {
		if text := textOf(f.Cls, f.Slots); !seen[text] {
			seen[text] = true
			out = append(out, f)
		}
	}
	return out
}
