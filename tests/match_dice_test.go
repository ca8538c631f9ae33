package tests

import (
	"strconv"

	"loop.example/s01311/impl"
)

// Texts of a small world, in which facts often match.

func (d *dice) smallValue() string { return d.pick("0", "1", "2", "1", "x") }

func (d *dice) smallTerm() string {
	switch d.roll(8) {
	case 0:
		return "_"
	case 1:
		return d.smallValue()
	case 2:
		return "(" + d.pick("=", "!=", "<", ">", "<=", ">=") + " " + d.smallValue() + ")"
	case 3, 4:
		return "(" + d.pick("=", "!=", "<", ">", "<=", ">=") + " " + d.variable() + ")"
	}
	return d.variable()
}

func (d *dice) smallPattern(terms int) string {
	text := "(" + d.pick("", "", "not ") + d.pick("a", "a", "b")
	for range terms {
		text += " " + d.smallTerm()
	}
	return text + ")"
}

// arity is mostly one for all patterns and facts of a class.
func (d *dice) arity(cls string) int {
	if d.roll(15) == 0 {
		return d.roll(impl.MaxSlots + 1)
	}
	if cls == "b" {
		return 2
	}
	return 1
}

// A classPattern asks more of the facts if it is negated: it would bar too many
// matches.
func (d *dice) classPattern() string {
	cls, sign := d.pick("a", "a", "b"), d.pick("", "", "", "not ", "not ")
	text := "(" + sign + cls
	for range d.arity(cls) {
		switch {
		case sign == "" && d.roll(3) == 0:
			text += " _"
		case sign != "" && d.roll(2) == 0:
			text += " " + d.pick("0", "2", "x", "y", "(> 1)", "(> ?x)", "(< ?y)")
		default:
			text += " " + d.smallTerm()
		}
	}
	return text + ")"
}

// smallRule tries until the rule is checked.
func (d *dice) smallRule(name string) impl.Rule {
	for {
		text := "(rule " + name + " 0"
		for range 1 + d.roll(impl.MaxPats) {
			text += " " + d.classPattern()
		}
		rules := impl.ParseRules([]byte(text + " =>)")).Rules
		if impl.CheckRules(rules).Code == impl.CheckOK {
			return rules[0]
		}
	}
}

func (d *dice) smallRules(n int) []impl.Rule {
	var rules []impl.Rule
	for i := range n {
		rules = append(rules, d.smallRule("r"+strconv.Itoa(i)))
	}
	return rules
}

func (d *dice) smallSlotsOf(n int) []impl.Value {
	pool := values(number(0), number(1), number(2), number(1), symbol("x"))
	var slots []impl.Value
	for range n {
		slots = append(slots, pool[d.roll(len(pool))])
	}
	return slots
}

func (d *dice) smallFact() impl.Fact {
	cls := d.pick("a", "a", "b")
	return newFact(0, cls, d.smallSlotsOf(d.arity(cls))...)
}

func (d *dice) smallFacts(n int) []impl.Fact {
	var facts []impl.Fact
	tag := 0
	for range n {
		tag += 1 + d.roll(3)
		f := d.smallFact()
		f.Tag = tag
		facts = append(facts, f)
	}
	return facts
}

// smallOp is mostly an operation on what there may be, now and then a wrong one.
func (d *dice) smallOp(tags int) impl.WmOp {
	f := d.smallFact()
	op := impl.WmOp{Kind: 1 + d.roll(3), Cls: f.Cls, Tag: 1 + d.roll(tags+1), Slots: f.Slots}
	switch d.roll(30) {
	case 0:
		op.Kind = d.roll(9) - 2
	case 1:
		op.Cls = d.pick("", "A", "not", longSymbol(impl.MaxSym+1))
	case 2:
		op.Slots = append(op.Slots, impl.Value{Kind: 2})
	case 3:
		op.Slots = manySlots(impl.MaxSlots + d.roll(2))
	case 4:
		op.Tag = d.roll(5) - 3
	}
	return op
}

// smallOps mostly makes facts at first.
func (d *dice) smallOps(n int) []impl.WmOp {
	var ops []impl.WmOp
	tags := 0
	for i := range n {
		op := d.smallOp(tags)
		if i < n/2 && d.roll(4) > 0 {
			op.Kind = impl.CmdAssert
		}
		if op.Kind != impl.CmdRetract {
			tags++
		}
		ops = append(ops, op)
	}
	return ops
}
