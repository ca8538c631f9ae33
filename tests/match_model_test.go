package tests

import (
	"slices"
	"strconv"
	"testing"

	"loop.example/s01311/impl"
)

// The model says Chapters 3 and 4 over again in the plainest way: bindings are
// a list, a match is tried by going through all patterns, and all ways to give
// facts to patterns are tried.

func modelCompare(op int, a, b impl.Value) bool {
	switch {
	case op == impl.OpEq:
		return a == b
	case op == impl.OpNe:
		return a != b
	case a.Kind != impl.ValInt || b.Kind != impl.ValInt:
		return false
	case a.Num < b.Num:
		return op == impl.OpLt || op == impl.OpLe
	case a.Num > b.Num:
		return op == impl.OpGt || op == impl.OpGe
	}
	return op == impl.OpLe || op == impl.OpGe
}

func modelBinding(binds []impl.Bind, name string) (impl.Value, bool) {
	for _, b := range binds {
		if b.Var == name {
			return b.Val, true
		}
	}
	return impl.Value{}, false
}

// modelSlot answers the bindings behind a term, if the slot's value agrees.
func modelSlot(term impl.Term, v impl.Value, binds []impl.Bind) ([]impl.Bind, bool) {
	bound, known := modelBinding(binds, term.Var)
	switch term.Kind {
	case impl.TermConst:
		return binds, v == term.Val
	case impl.TermVar:
		if known {
			return binds, v == bound
		}
		return append(slices.Clone(binds), impl.Bind{Var: term.Var, Val: v}), true
	case impl.TermTest:
		if term.Var == "" {
			return binds, modelCompare(term.Op, v, term.Val)
		}
		return binds, known && modelCompare(term.Op, v, bound)
	}
	return binds, true
}

func modelAgree(p impl.Pattern, f impl.Fact, binds []impl.Bind) ([]impl.Bind, bool) {
	if f.Cls != p.Cls || len(f.Slots) != len(p.Terms) {
		return nil, false
	}
	for i, term := range p.Terms {
		var ok bool
		if binds, ok = modelSlot(term, f.Slots[i], binds); !ok {
			return nil, false
		}
	}
	return binds, true
}

func modelFact(facts []impl.Fact, tag int) (impl.Fact, bool) {
	for _, f := range facts {
		if f.Tag == tag {
			return f, true
		}
	}
	return impl.Fact{}, false
}

// modelBinds answers the bindings behind the patterns, if the tags are a match
// of them.
func modelBinds(pats []impl.Pattern, facts []impl.Fact, tags []int) ([]impl.Bind, bool) {
	var binds []impl.Bind
	for _, p := range pats {
		if p.Neg {
			for _, f := range facts {
				if _, ok := modelAgree(p, f, binds); ok {
					return nil, false
				}
			}
			continue
		}
		if len(tags) == 0 {
			return nil, false
		}
		f, found := modelFact(facts, tags[0])
		if !found {
			return nil, false
		}
		var ok bool
		if binds, ok = modelAgree(p, f, binds); !ok {
			return nil, false
		}
		tags = tags[1:]
	}
	return binds, len(tags) == 0
}

// tuples tells all lists of n tags of the facts, in order.
func tuples(facts []impl.Fact, n int) [][]int {
	if n == 0 {
		return [][]int{nil}
	}
	var all [][]int
	for _, first := range facts {
		for _, rest := range tuples(facts, n-1) {
			all = append(all, append([]int{first.Tag}, rest...))
		}
	}
	return all
}

func positives(pats []impl.Pattern) int {
	n := 0
	for _, p := range pats {
		if !p.Neg {
			n++
		}
	}
	return n
}

func modelMatches(pats []impl.Pattern, facts []impl.Fact) [][]int {
	var list [][]int
	for _, tags := range tuples(facts, positives(pats)) {
		if _, ok := modelBinds(pats, facts, tags); ok {
			list = append(list, tags)
		}
	}
	return list
}

func modelTokens(r impl.Rule, facts []impl.Fact) int {
	n := 0
	for k := range r.Pats {
		n += len(modelMatches(r.Pats[:k+1], facts))
	}
	return n
}

func modelConflict(rules []impl.Rule, facts []impl.Fact) []impl.Inst {
	var list []impl.Inst
	for i, r := range rules {
		for _, tags := range modelMatches(r.Pats, facts) {
			list = append(list, impl.Inst{Rule: i, Tags: tags})
		}
	}
	return list
}

func modelSize(rules []impl.Rule, modes []int, facts []impl.Fact) int {
	n := 0
	for i, r := range rules {
		if modes[i] == impl.ModeRete {
			n += modelTokens(r, facts)
		} else {
			n += len(modelMatches(r.Pats, facts))
		}
	}
	return n
}

func modelChange(s impl.Store, op impl.WmOp) impl.Change {
	switch op.Kind {
	case impl.CmdAssert:
		return impl.Assert(s, op.Cls, op.Slots)
	case impl.CmdRetract:
		return impl.Retract(s, op.Tag)
	case impl.CmdModify:
		return impl.Modify(s, op.Tag, op.Slots)
	}
	return impl.Change{Code: impl.CodeBad}
}

// missing tells what of list is not in other.
func missing(list, other []impl.Inst) []impl.Inst {
	there := map[string]bool{}
	for _, x := range other {
		there[showInst(x)] = true
	}
	var out []impl.Inst
	for _, x := range list {
		if !there[showInst(x)] {
			out = append(out, x)
		}
	}
	return out
}

// A modelStep has no Size of its own, but for each rule what it would be with
// either mode, and the facts behind the operation.
type modelStep struct {
	step  impl.Step
	rete  []int
	treat []int
	facts []impl.Fact
}

// modelFollow finds the conflict set and the sizes anew behind each operation.
func modelFollow(rules []impl.Rule, room int, single bool, ops []impl.WmOp) []modelStep {
	s := impl.Store{Next: 1, Cap: room, Single: single}
	var list []modelStep
	var before []impl.Inst
	for _, op := range ops {
		c := modelChange(s, op)
		if c.Code != impl.CodeBad {
			s = c.Store
		}
		after := modelConflict(rules, s.Facts)
		m := modelStep{facts: s.Facts}
		m.step = impl.Step{Code: c.Code, Tag: c.Tag, Adds: missing(after, before), Drops: missing(before, after)}
		for _, r := range rules {
			m.rete = append(m.rete, modelTokens(r, s.Facts))
			m.treat = append(m.treat, len(modelMatches(r.Pats, s.Facts)))
		}
		list = append(list, m)
		before = after
	}
	return list
}

func (m modelStep) sized(modes []int) impl.Step {
	s := m.step
	for i, mode := range modes {
		s.Size += [][]int{m.rete, m.treat}[mode][i]
	}
	return s
}

func showInst(x impl.Inst) string {
	text := strconv.Itoa(x.Rule) + ":"
	for i, tag := range x.Tags {
		if i > 0 {
			text += ","
		}
		text += strconv.Itoa(tag)
	}
	return text
}

func showInsts(list []impl.Inst) string {
	text := ""
	for i, x := range list {
		if i > 0 {
			text += " "
		}
		text += showInst(x)
	}
	return text
}

func equalInsts(a, b []impl.Inst) bool {
	return slices.EqualFunc(a, b, func(x, y impl.Inst) bool {
		return x.Rule == y.Rule && slices.Equal(x.Tags, y.Tags)
	})
}

func equalSteps(a, b impl.Step) bool {
	return a.Code == b.Code && a.Tag == b.Tag && a.Size == b.Size && equalInsts(a.Adds, b.Adds) && equalInsts(a.Drops, b.Drops)
}

func wantSteps(t *testing.T, what string, got []impl.Step, modes []int, model []modelStep) {
	t.Helper()
	if len(got) != len(model) {
		t.Fatalf("%s: %d steps, asked for %d", what, len(got), len(model))
	}
	for i, m := range model {
		if want := m.sized(modes); !equalSteps(got[i], want) {
			t.Fatalf("%s: modes %v, step %d: answered\n%+v, asked for\n%+v", what, modes, i, got[i], want)
		}
	}
}
