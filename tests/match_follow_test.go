package tests

import (
	"testing"

	"loop.example/s01311/impl"
)

func TestConstantsOfMatching(t *testing.T) {
	if impl.ModeRete != 0 || impl.ModeTreat != 1 || impl.MaxOps != 60 {
		t.Error(impl.ModeRete, impl.ModeTreat, impl.MaxOps)
	}
}

// A stepRow is what a Step should be; the two sizes are those of all ModeRete
// and of all ModeTreat.
type stepRow struct {
	code  int
	tag   int
	adds  string
	drops string
	rete  int
	treat int
}

// wantFollow holds Follow against rows with either mode.
func wantFollow(t *testing.T, rules []impl.Rule, room int, single bool, ops []impl.WmOp, rows []stepRow) {
	t.Helper()
	for _, mode := range []int{impl.ModeRete, impl.ModeTreat} {
		steps := impl.Follow(rules, modesOf(len(rules), mode), room, single, ops)
		if len(steps) != len(rows) {
			t.Fatalf("mode %d: %d steps, asked for %d", mode, len(steps), len(rows))
		}
		for i, row := range rows {
			size := []int{row.rete, row.treat}[mode]
			s := steps[i]
			if s.Code != row.code || s.Tag != row.tag || s.Size != size || showInsts(s.Adds) != row.adds || showInsts(s.Drops) != row.drops {
				t.Errorf("mode %d, step %d: %+v, asked for %+v", mode, i, s, row)
			}
		}
	}
}

func TestFollowAJoin(t *testing.T) {
	rules := checkedRules(t, "(rule p 0 (a ?x) (b ?x) =>)(rule q 0 (b _) =>)")
	ops := opsOf(t, "(assert b 1)(assert a 1)(assert a 1)(assert b 2)(modify 4 1)(modify 1 7)(retract 2)(retract 3)(retract 5)(retract 6)")
	wantFollow(t, rules, 9, false, ops, []stepRow{
		{0, 1, "1:1", "", 1, 1},
		{0, 2, "0:2,1", "", 3, 2},
		{0, 3, "0:3,1", "", 5, 3},
		{0, 4, "1:4", "", 6, 4},
		{0, 5, "0:2,5 0:3,5 1:5", "1:4", 8, 6},
		{0, 6, "1:6", "0:2,1 0:3,1 1:1", 6, 4},
		{0, 2, "", "0:2,5", 4, 3},
		{0, 3, "", "0:3,5", 2, 2},
		{0, 5, "", "1:5", 1, 1},
		{0, 6, "", "1:6", 0, 0},
	})
}

func TestFollowNegatedPatterns(t *testing.T) {
	rules := checkedRules(t, "(rule p 0 (not c) (a ?x) (not b ?x) =>)")
	ops := opsOf(t, "(assert a 1)(assert b 1)(assert b 1)(retract 2)(retract 3)(assert c)(assert c)(assert a 2)(retract 4)(retract 5)(modify 6 1)(assert b 1)(modify 8 2)(modify 9 2)(retract 10)")
	wantFollow(t, rules, 9, false, ops, []stepRow{
		{0, 1, "0:1", "", 3, 1},
		{0, 2, "", "0:1", 2, 0},
		{0, 3, "", "", 2, 0},
		{0, 2, "", "", 2, 0},
		{0, 3, "0:1", "", 3, 1},
		{0, 4, "", "0:1", 0, 0},
		{0, 5, "", "", 0, 0},
		{0, 6, "", "", 0, 0},
		{0, 4, "", "", 0, 0},
		{0, 5, "0:1 0:6", "", 5, 2},
		{0, 7, "0:7", "0:6", 5, 2},
		{0, 8, "", "0:1 0:7", 3, 0},
		{0, 9, "0:1 0:7", "", 5, 2},
		// The fact that barred and the one that bars now are the same to a
		// conflict set that has nothing to do with them.
		{0, 10, "", "", 5, 2},
		{0, 10, "", "", 5, 2},
	})
}

// A change that takes a bar away and brings another is told as no change.
func TestModifiedBars(t *testing.T) {
	rules := checkedRules(t, "(rule p 0 (a ?x) (not b ?x _) =>)")
	ops := opsOf(t, "(assert a 1)(assert b 1 1)(modify 2 1 2)(modify 3 2 1)(modify 4 1 1)(assert b 1 3)(modify 5 2 2)")
	wantFollow(t, rules, 9, true, ops, []stepRow{
		{0, 1, "0:1", "", 2, 1},
		{0, 2, "", "0:1", 1, 0},
		{0, 3, "", "", 1, 0},
		{0, 4, "0:1", "", 2, 1},
		{0, 5, "", "0:1", 1, 0},
		{0, 6, "", "", 1, 0},
		{0, 7, "", "", 1, 0},
	})
}

func TestFollowOneFactInSeveralPlaces(t *testing.T) {
	rules := checkedRules(t, "(rule p 0 (a ?x) (a ?x) =>)(rule q 0 (a ?x) (not a (> ?x)) (a _) =>)(rule r 0 (a _) (not a 3) =>)")
	ops := opsOf(t, "(assert a 1)(assert a 1)(assert a 2)(modify 1 3)(retract 4)(retract 2)(retract 3)")
	wantFollow(t, rules, 9, false, ops, []stepRow{
		{0, 1, "0:1,1 1:1,1 2:1", "", 7, 3},
		{0, 2, "0:1,2 0:2,1 0:2,2 1:1,2 1:2,1 1:2,2 2:2", "", 18, 10},
		{0, 3, "0:3,3 1:3,1 1:3,2 1:3,3 2:3", "1:1,1 1:1,2 1:2,1 1:2,2", 21, 11},
		{0, 4, "0:4,4 1:4,2 1:4,3 1:4,4", "0:1,1 0:1,2 0:2,1 1:3,1 1:3,2 1:3,3 2:1 2:2 2:3", 16, 6},
		{0, 4, "1:3,2 1:3,3 2:2 2:3", "0:4,4 1:4,2 1:4,3 1:4,4", 13, 6},
		{0, 2, "", "0:2,2 1:3,2 2:2", 7, 3},
		{0, 3, "", "0:3,3 1:3,3 2:3", 0, 0},
	})
}

// The codes of Chapter 1 come through; with them nothing changes.
func TestFollowCodes(t *testing.T) {
	rules := checkedRules(t, "(rule p 0 (a _) (not b) =>)")
	ops := opsOf(t, "(assert a 1)(assert a 1)(assert a 2)(modify 2 1)(assert a 3)(modify 9 1)(retract 9)(retract 0)(modify 1 1)(retract 3)(assert a 3)")
	ops = append(ops,
		impl.WmOp{Kind: impl.CmdAssert, Cls: "A"},
		impl.WmOp{Kind: impl.CmdAssert, Cls: "a", Slots: manySlots(impl.MaxSlots + 1)},
		impl.WmOp{Kind: impl.CmdAssert, Cls: "a", Slots: values(impl.Value{Kind: 2})},
		impl.WmOp{Kind: impl.CmdModify, Tag: 2, Slots: values(impl.Value{Kind: -1})},
		impl.WmOp{Kind: impl.CmdModify, Tag: 99, Slots: values(symbol("A"))},
		impl.WmOp{Kind: impl.CmdRun, Tag: 2}, impl.WmOp{Tag: 2}, impl.WmOp{Kind: -1, Tag: 2}, impl.WmOp{Kind: 5, Tag: 2}, impl.WmOp{Kind: 1 << 40},
		impl.WmOp{Kind: impl.CmdRetract, Tag: -2}, impl.WmOp{Kind: impl.CmdRetract, Tag: 1000001},
		// What an operation's Kind does not name counts for nothing.
		impl.WmOp{Kind: impl.CmdRetract, Tag: 2, Cls: "A", Slots: values(impl.Value{Kind: 2})},
		impl.WmOp{Kind: impl.CmdAssert, Tag: 77, Cls: "not"},
		impl.WmOp{Kind: impl.CmdModify, Tag: 4, Cls: "B", Slots: values(symbol("x"))})
	none := stepRow{impl.CodeNone, 0, "", "", 4, 2}
	bad := stepRow{impl.CodeBad, 0, "", "", 4, 2}
	wantFollow(t, rules, 2, true, ops, []stepRow{
		{0, 1, "0:1", "", 2, 1},
		{impl.CodeDup, 1, "", "", 2, 1},
		{0, 2, "0:2", "", 4, 2},
		{impl.CodeDup, 1, "", "", 4, 2},
		{impl.CodeFull, 0, "", "", 4, 2},
		none, none, none,
		{0, 3, "0:3", "0:1", 4, 2},
		{0, 3, "", "0:3", 2, 1},
		{0, 4, "0:4", "", 4, 2},
		bad, bad, bad, bad, bad, bad, bad, bad, bad, bad,
		none, none,
		{0, 2, "", "0:2", 2, 1},
		{0, 5, "", "", 2, 1},
		{0, 6, "0:6", "0:4", 2, 1},
	})
}

func TestCapacities(t *testing.T) {
	rules := checkedRules(t, "(rule p 0 (not b) (a) =>)")
	for _, single := range []bool{false, true} {
		wantFollow(t, rules, 0, single, opsOf(t, "(assert a)(assert b)(retract 1)(modify 1)"), []stepRow{
			{impl.CodeFull, 0, "", "", 1, 0},
			{impl.CodeFull, 0, "", "", 1, 0},
			{impl.CodeNone, 0, "", "", 1, 0},
			{impl.CodeNone, 0, "", "", 1, 0},
		})
	}
	wantFollow(t, rules, 1, true, opsOf(t, "(assert a)(assert a)(assert b)(modify 1)(retract 2)(assert b)(assert a)"), []stepRow{
		{0, 1, "0:1", "", 2, 1},
		{impl.CodeDup, 1, "", "", 2, 1},
		{impl.CodeFull, 0, "", "", 2, 1},
		{0, 2, "0:2", "0:1", 2, 1},
		{0, 2, "", "0:2", 1, 0},
		{0, 3, "", "", 0, 0},
		{impl.CodeFull, 0, "", "", 0, 0},
	})
}

func TestNoRulesOrNoOperations(t *testing.T) {
	wantFollow(t, nil, 2, false, opsOf(t, "(assert a)(assert a)(assert a)(retract 1)(retract 1)"), []stepRow{
		{0, 1, "", "", 0, 0}, {0, 2, "", "", 0, 0}, {impl.CodeFull, 0, "", "", 0, 0}, {0, 1, "", "", 0, 0}, {impl.CodeNone, 0, "", "", 0, 0},
	})
	wantFollow(t, []impl.Rule{}, 0, false, nil, nil)
	wantFollow(t, checkedRules(t, "(rule p 0 (a) =>)"), 2, false, nil, nil)
}

// In each of these there is nothing to tell, not even a step.
func TestFollowOfWrongArguments(t *testing.T) {
	rules, ops := checkedRules(t, "(rule p 0 (a) =>)(rule q 0 (a) =>)"), opsOf(t, "(assert a)(retract 1)")
	if got := impl.Follow(rules, []int{0, 1}, 5, false, ops); len(got) != 2 {
		t.Fatal(got)
	}
	for _, modes := range [][]int{nil, {0}, {1}, {0, 1, 0}, {0, 2}, {2, 0}, {-1, 0}, {1, -1}, {0, 0, 2}, {1 << 40, 0}, make([]int, 100000)} {
		if got := impl.Follow(rules, modes, 5, false, ops); len(got) != 0 {
			t.Errorf("modes %v: %v", modes, got)
		}
	}
	for _, modes := range [][]int{{0}, {1}, {2}} {
		if got := impl.Follow(nil, modes, 5, false, ops); len(got) != 0 {
			t.Errorf("no rules, modes %v: %v", modes, got)
		}
	}
	for _, room := range []int{-1, impl.MaxFacts + 1, -1 << 62, 1 << 62} {
		if got := impl.Follow(rules, []int{0, 1}, room, false, ops); len(got) != 0 {
			t.Errorf("cap %d: %v", room, got)
		}
	}
	for name, bad := range uncheckedRules(t) {
		for mode := range 2 {
			if got := impl.Follow(bad, modesOf(len(bad), mode), 5, false, ops); len(got) != 0 {
				t.Errorf("%s: %v", name, got)
			}
		}
	}
}

func TestHowManyOperations(t *testing.T) {
	rules := checkedRules(t, "(rule p 0 (a _) =>)")
	var ops []impl.WmOp
	for range impl.MaxOps / 2 {
		ops = append(ops, opsOf(t, "(assert a 1)")...)
	}
	for i := range impl.MaxOps / 2 {
		ops = append(ops, impl.WmOp{Kind: impl.CmdRetract, Tag: i + 1})
	}
	for mode := range 2 {
		steps := impl.Follow(rules, []int{mode}, impl.MaxFacts, false, ops)
		if len(steps) != impl.MaxOps || steps[29].Size != 30 || steps[59].Size != 0 || showInsts(steps[59].Drops) != "0:30" {
			t.Error(mode, len(steps))
		}
		for _, more := range [][]impl.WmOp{{{}}, {{Kind: impl.CmdRetract, Tag: 1}}, make([]impl.WmOp, 100000)} {
			if got := impl.Follow(rules, []int{mode}, impl.MaxFacts, false, append(ops[:len(ops):len(ops)], more...)); len(got) != 0 {
				t.Error("more than MaxOps:", len(got))
			}
		}
	}
}
