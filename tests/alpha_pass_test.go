package tests

import (
	"testing"

	"loop.example/s01311/impl"
)

// All six operators between values that are less, equal, greater, and symbols.
func TestComparing(t *testing.T) {
	least, most := number(-9223372036854775808), number(9223372036854775807)
	for _, row := range []struct {
		a, b impl.Value
		true string
	}{
		{number(1), number(2), "!= < <="},
		{number(2), number(2), "= <= >="},
		{number(3), number(2), "!= > >="},
		{number(-1), number(0), "!= < <="},
		{number(0), number(0), "= <= >="},
		{least, most, "!= < <="},
		{most, least, "!= > >="},
		{most, most, "= <= >="},
		{least, number(0), "!= < <="},
		{number(0), least, "!= > >="},
		{symbol("x"), symbol("x"), "="},
		{symbol("x"), symbol("y"), "!="},
		{symbol("y"), symbol("x"), "!="},
		{symbol("x"), symbol("xx"), "!="},
		{symbol("x"), number(0), "!="},
		{number(0), symbol("x"), "!="},
		{number(1), symbol("x"), "!="},
	} {
		want := map[string]bool{}
		for _, op := range splitWords(row.true) {
			want[op] = true
		}
		for op, word := range []string{"", "=", "!=", "<", ">", "<=", ">="} {
			if op == 0 {
				continue
			}
			value := impl.Alpha{Cls: "a", Arity: 1, Tests: []impl.AlphaTest{{Slot: 0, Op: op, Other: -1, Val: row.b}}}
			if got := impl.AlphaPass(value, newFact(1, "a", row.a)); got != want[word] {
				t.Errorf("%+v %s %+v: %v", row.a, word, row.b, got)
			}
			other := impl.Alpha{Cls: "a", Arity: 2, Tests: []impl.AlphaTest{{Slot: 0, Op: op, Other: 1}}}
			if got := impl.AlphaPass(other, newFact(1, "a", row.a, row.b)); got != want[word] {
				t.Errorf("%+v %s slot of %+v: %v", row.a, word, row.b, got)
			}
			back := impl.Alpha{Cls: "a", Arity: 2, Tests: []impl.AlphaTest{{Slot: 1, Op: op, Other: 0}}}
			if got := impl.AlphaPass(back, newFact(1, "a", row.b, row.a)); got != want[word] {
				t.Errorf("slot of %+v %s %+v: %v", row.a, word, row.b, got)
			}
		}
	}
}

func TestFactsThatPass(t *testing.T) {
	for _, row := range []struct {
		pat  string
		fact string
		want bool
	}{
		{"(a)", "a", true},
		{"(a)", "b", false},
		{"(a)", "aa", false},
		{"(a)", "a 0", false},
		{"(a _)", "a", false},
		{"(a _)", "a 0", true},
		{"(a _)", "a x", true},
		{"(a _)", "a 0 0", false},
		{"(not a _)", "a 0", true},
		{"(a _ _ _ _ _ _)", "a 1 2 3 4 5 6", true},
		{"(a _ _ _ _ _ _)", "a 1 2 3 4 5", false},
		{"(a 1 2 3 4 5 6)", "a 1 2 3 4 5 6", true},
		{"(a 1 2 3 4 5 6)", "a 1 2 3 4 5 7", false},
		{"(a 1 2 3 4 5 6)", "a 0 2 3 4 5 6", false},
		{"(a ?x ?x)", "a 1 1", true},
		{"(a ?x ?x)", "a x x", true},
		{"(a ?x ?x)", "a 1 2", false},
		{"(a ?x ?x ?x)", "a 1 1 2", false},
		{"(a ?x ?y)", "a 1 2", true},
		{"(a ?x (> ?x))", "a 1 2", true},
		{"(a ?x (> ?x))", "a 2 1", false},
		{"(a ?x (> ?x))", "a x y", false},
		{"(a ?x (!= ?x))", "a x y", true},
		// Asked by an earlier pattern's variable or by none, the slot is free.
		{"(a (> ?x))", "a 1", true},
		{"(a (> ?x) ?x)", "a 1 2", true},
		{"(a (< 3) (> 3))", "a 2 4", true},
		{"(a (< 3) (> 3))", "a 2 3", false},
		{"(a (< 3) (> 3))", "a 3 4", false},
	} {
		a, f := impl.AlphaOf(patternOf(t, row.pat)), factsOf(t, row.fact)[0]
		if got := impl.AlphaPass(a, f); got != row.want {
			t.Errorf("%s and %s: %v", row.pat, row.fact, got)
		}
	}
}

// Tests that name a slot, another slot or an operator that is none let nothing
// pass, even where the rest would.
func TestWrongAlphas(t *testing.T) {
	f := newFact(1, "a", number(1), number(1))
	good := impl.AlphaTest{Slot: 0, Op: impl.OpEq, Other: 1}
	huge := int(^uint(0) >> 1)
	for _, bad := range []impl.AlphaTest{
		{Slot: -1, Op: impl.OpEq, Other: 1}, {Slot: 2, Op: impl.OpEq, Other: 1}, {Slot: huge, Op: impl.OpEq, Other: 1}, {Slot: -huge - 1, Op: impl.OpEq, Other: 1},
		{Slot: -1, Op: impl.OpEq, Other: -1, Val: number(1)}, {Slot: 2, Op: impl.OpEq, Other: -1, Val: number(1)}, {Slot: -1, Op: impl.OpNe, Other: -1},
		{Slot: 0, Op: impl.OpEq, Other: -2}, {Slot: 0, Op: impl.OpEq, Other: -2, Val: number(1)}, {Slot: 0, Op: impl.OpEq, Other: 2}, {Slot: 0, Op: impl.OpNe, Other: 2},
		{Slot: 0, Op: impl.OpEq, Other: huge}, {Slot: 0, Op: impl.OpEq, Other: -huge - 1, Val: number(1)},
		{Slot: 0, Op: 0, Other: 1}, {Slot: 0, Op: 7, Other: 1}, {Slot: 0, Op: -1, Other: 1}, {Slot: 0, Op: huge, Other: 1}, {Slot: 0, Op: 0, Other: -1, Val: number(1)},
		{Slot: 0, Op: 7, Other: -1, Val: number(1)}, {},
	} {
		for _, tests := range [][]impl.AlphaTest{{bad}, {good, bad}, {bad, good}} {
			if impl.AlphaPass(impl.Alpha{Cls: "a", Arity: 2, Tests: tests}, f) {
				t.Errorf("passed: %+v", tests)
			}
		}
	}
	if !impl.AlphaPass(impl.Alpha{Cls: "a", Arity: 2, Tests: []impl.AlphaTest{good, good}}, f) {
		t.Error("the good test alone lets the fact pass")
	}
	if !impl.AlphaPass(impl.Alpha{Cls: "a", Arity: 2, Tests: []impl.AlphaTest{{Slot: 0, Op: impl.OpEq, Other: 1, Val: number(9)}}}, f) {
		t.Error("beside another slot Val counts for nothing")
	}
	for _, a := range []impl.Alpha{{}, {Cls: "a"}, {Cls: "a", Arity: -1}, {Cls: "a", Arity: 1}, {Cls: "a", Arity: 3}, {Arity: 2}, {Cls: "A", Arity: 2}} {
		if impl.AlphaPass(a, f) {
			t.Errorf("passed: %+v", a)
		}
	}
}

// An Alpha is asked of a fact's class and slots; its tag counts for nothing.
func TestManyTestsAndAnyTag(t *testing.T) {
	tests := make([]impl.AlphaTest, 10000)
	for i := range tests {
		tests[i] = impl.AlphaTest{Slot: i % 2, Op: impl.OpGe, Other: (i + 1) % 2}
	}
	a := impl.Alpha{Cls: "a", Arity: 2, Tests: tests}
	for _, tag := range []int{-1, 0, 1, impl.MaxTag + 1} {
		if !impl.AlphaPass(a, newFact(tag, "a", number(4), number(4))) {
			t.Errorf("tag %d: did not pass", tag)
		}
	}
	if impl.AlphaPass(a, newFact(1, "a", number(4), number(5))) {
		t.Error("passed")
	}
}
