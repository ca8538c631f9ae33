package tests

import (
	"slices"
	"testing"

	"loop.example/s01311/impl"
)

// The first half of promise 5: Conflict has just what Holds, each once, in
// order; and promise 8. All are held against the model too.
func TestConflictHasJustWhatHolds(t *testing.T) {
	d, found := dice(10), 0
	for range 3000 {
		rules, facts := d.smallRules(1+d.roll(3)), d.smallFacts(d.roll(8))
		conflict := impl.Conflict(rules, facts)
		if want := modelConflict(rules, facts); !equalInsts(conflict, want) {
			t.Fatalf("%s over %+v: %s, asked for %s", impl.PrintRules(rules), facts, showInsts(conflict), showInsts(want))
		}
		var holding []impl.Inst
		for i, r := range rules {
			for _, tags := range tuples(facts, positives(r.Pats)) {
				if impl.Holds(r, facts, tags) {
					holding = append(holding, impl.Inst{Rule: i, Tags: tags})
				}
			}
			wantTokens(t, r, facts)
		}
		if !equalInsts(conflict, holding) {
			t.Fatalf("%s over %+v: %s, but %s hold", impl.PrintRules(rules), facts, showInsts(conflict), showInsts(holding))
		}
		for _, x := range conflict {
			wantBindings(t, rules[x.Rule], facts, x.Tags)
		}
		found += len(conflict)
	}
	if found < 10000 {
		t.Errorf("%d instantiations: the walk says little", found)
	}
}

// wantTokens holds Tokens against the model and against the bound of promise 8.
func wantTokens(t *testing.T, r impl.Rule, facts []impl.Fact) {
	t.Helper()
	got, bound := impl.Tokens(r, facts), 0
	if want := modelTokens(r, facts); got != want {
		t.Fatalf("%s over %+v: %d tokens, asked for %d", impl.PrintRules([]impl.Rule{r}), facts, got, want)
	}
	for k := range r.Pats {
		power := 1
		for range positives(r.Pats[:k+1]) {
			power *= len(facts)
		}
		bound += power
	}
	if got > bound {
		t.Fatalf("%s over %+v: %d tokens, at most %d", impl.PrintRules([]impl.Rule{r}), facts, got, bound)
	}
}

func wantBindings(t *testing.T, r impl.Rule, facts []impl.Fact, tags []int) {
	t.Helper()
	want, _ := modelBinds(r.Pats, facts, tags)
	if got := impl.Bindings(r, facts, tags); !slices.Equal(got, want) {
		t.Fatalf("%s over %+v, tags %v: %+v, asked for %+v", impl.PrintRules([]impl.Rule{r}), facts, tags, got, want)
	}
}

// The bound of promise 8 is reached where all facts agree with all patterns.
func TestTokensReachTheBound(t *testing.T) {
	for _, row := range []struct {
		pats string
		n    int
		want int
	}{
		{"(a _)", 40, 40},
		{"(a _)(a _)", 40, 40 + 1600},
		{"(a _)(a _)(a _)", 40, 40 + 1600 + 64000},
		{"(not b)(a _)(not b)(a _)(not b)(a _)", 40, 1 + 40 + 40 + 1600 + 1600 + 64000},
		{"(not b)(not b)(not b)(a _)(a _)(a _)", 40, 1 + 1 + 1 + 40 + 1600 + 64000},
		{"(a _)(a _)(a _)(not b)(not b)(not b)", 40, 40 + 1600 + 4*64000},
		{"(not b)(not b)(not b)(a _)(a _)(a _)", 0, 3},
		{"(a _)(not b)", 0, 0},
		{"(a _)(not b)(a _)", 1, 3},
	} {
		if got := impl.Tokens(ruleOf(t, row.pats), manyFacts(row.n)); got != row.want {
			t.Errorf("%s over %d facts: %d, asked for %d", row.pats, row.n, got, row.want)
		}
	}
}

// A trip is a row of operations that is followed with all kinds of modes.
type trip struct {
	rules  []impl.Rule
	room   int
	single bool
	ops    []impl.WmOp
}

func (x trip) follow(modes []int) []impl.Step {
	return impl.Follow(x.rules, modes, x.room, x.single, x.ops)
}

func (d *dice) modes(n int) []int {
	var modes []int
	for range n {
		modes = append(modes, d.roll(2))
	}
	return modes
}

// checkTrip holds Follow against the model with all kinds of modes, and against
// the words of promises 5, 6 and 7.
func checkTrip(t *testing.T, d *dice, x trip) []impl.Step {
	t.Helper()
	n := len(x.rules)
	text := string(impl.PrintRules(x.rules))
	rete, treat := modesOf(n, impl.ModeRete), modesOf(n, impl.ModeTreat)
	model := modelFollow(x.rules, x.room, x.single, x.ops)
	var told [][]impl.Step
	for _, modes := range [][]int{rete, treat, mixedModes(n, 0), mixedModes(n, 1), d.modes(n)} {
		got := x.follow(modes)
		wantSteps(t, text, got, modes, model)
		wantPutTogether(t, x.rules, got, model)
		told = append(told, got)
	}
	for i := range x.ops {
		if told[1][i].Size > told[0][i].Size {
			t.Fatalf("%s: step %d: TREAT has %d, Rete %d", text, i, told[1][i].Size, told[0][i].Size)
		}
		for _, other := range told[1:] {
			a, b := told[0][i], other[i]
			a.Size, b.Size = 0, 0
			if !equalSteps(a, b) {
				t.Fatalf("%s: step %d: modes show: %+v and %+v", text, i, a, b)
			}
		}
	}
	return told[0]
}

// wantPutTogether puts Adds and Drops together, which must be the conflict set
// behind each step.
func wantPutTogether(t *testing.T, rules []impl.Rule, steps []impl.Step, model []modelStep) {
	t.Helper()
	now := map[string]bool{}
	for i, s := range steps {
		for _, x := range s.Drops {
			if !now[showInst(x)] {
				t.Fatalf("step %d drops %s, which was not there", i, showInst(x))
			}
			delete(now, showInst(x))
		}
		for _, x := range s.Adds {
			if now[showInst(x)] {
				t.Fatalf("step %d adds %s, which was there", i, showInst(x))
			}
			now[showInst(x)] = true
		}
		conflict := impl.Conflict(rules, model[i].facts)
		if len(conflict) != len(now) {
			t.Fatalf("step %d: %d put together, the conflict set has %d", i, len(now), len(conflict))
		}
		for _, x := range conflict {
			if !now[showInst(x)] {
				t.Fatalf("step %d: %s is missing", i, showInst(x))
			}
		}
	}
}

func TestTripsKeepPromises5To7(t *testing.T) {
	d, codes, adds, drops := dice(11), map[int]int{}, 0, 0
	for range 600 {
		x := trip{d.smallRules(1 + d.roll(3)), 8 - d.roll(3)*d.roll(5), d.roll(4) == 0, d.smallOps(6 + d.roll(25))}
		for _, s := range checkTrip(t, &d, x) {
			codes[s.Code]++
			adds, drops = adds+len(s.Adds), drops+len(s.Drops)
		}
	}
	for _, code := range []int{impl.CodeOK, impl.CodeBad, impl.CodeDup, impl.CodeFull, impl.CodeNone} {
		if codes[code] < 20 {
			t.Errorf("code %d was met %d times", code, codes[code])
		}
	}
	if adds < 5000 || drops < 3000 {
		t.Errorf("%d adds, %d drops: the trips say little", adds, drops)
	}
}

// Rules that are made of negated patterns of the same class as the positive
// ones, so that one fact matches and bars at once.
func TestTripsOfOneClass(t *testing.T) {
	d := dice(12)
	for range 150 {
		var rules []impl.Rule
		for len(rules) < 2 {
			text := "(rule r" + d.pick("0", "1", "2", "3", "4") + " 0"
			for range 2 + d.roll(impl.MaxPats-1) {
				text += " (" + d.pick("", "not ") + "a " + d.pick("?x", "?y", "(> ?x)", "(!= ?y)", "(= ?x)", "_", "1") + ")"
			}
			more := append(rules[:len(rules):len(rules)], impl.ParseRules([]byte(text+" =>)")).Rules...)
			if impl.CheckRules(more).Code == impl.CheckOK {
				rules = more
			}
		}
		var ops []impl.WmOp
		for i := range 24 {
			op := impl.WmOp{Kind: 1 + d.roll(3), Cls: "a", Tag: 1 + d.roll(i+1), Slots: d.smallSlotsOf(1)}
			if i < 8 {
				op.Kind = impl.CmdAssert
			}
			ops = append(ops, op)
		}
		checkTrip(t, &d, trip{rules, 8, false, ops})
	}
}

// The second half of promise 7: when all facts are gone, the size is what it
// was over the empty store.
func TestSizeHangsOnTheFactsAlone(t *testing.T) {
	d := dice(13)
	for range 400 {
		rules := d.smallRules(1 + d.roll(4))
		bad := []impl.WmOp{{}}
		var ops []impl.WmOp
		for range 8 {
			f := d.smallFact()
			ops = append(ops, impl.WmOp{Kind: impl.CmdAssert, Cls: f.Cls, Slots: f.Slots})
		}
		for i := range 6 {
			ops = append(ops, impl.WmOp{Kind: impl.CmdModify, Tag: i + 1 + d.roll(8), Slots: d.smallFact().Slots})
		}
		for i := range 14 {
			ops = append(ops, impl.WmOp{Kind: impl.CmdRetract, Tag: 1 + (i*5+3)%14})
		}
		for _, modes := range [][]int{modesOf(len(rules), 0), modesOf(len(rules), 1), d.modes(len(rules))} {
			empty := impl.Follow(rules, modes, 8, false, bad)
			steps := impl.Follow(rules, modes, 8, false, append(bad, ops...))
			last := steps[len(steps)-1]
			if last.Size != empty[0].Size || last.Size != steps[0].Size || last.Size != modelSize(rules, modes, nil) {
				t.Fatalf("%s: %d over the empty store, %d behind all", impl.PrintRules(rules), empty[0].Size, last.Size)
			}
		}
	}
}

// Two ways to the same facts, but for their tags, have one size.
func TestSizeDoesNotHangOnTheWay(t *testing.T) {
	rules := checkedRules(t, "(rule p 0 (not c) (a ?x) (not b ?x) (a (> ?x)) =>)(rule q 0 (a ?x) (a ?x) (not a (> ?x)) =>)")
	straight := opsOf(t, "(assert a 1)(assert a 2)(assert b 2)(assert a 3)")
	around := opsOf(t, "(assert c)(assert b 1)(assert a 3)(assert a 9)(modify 2 2)(retract 1)(modify 4 2)(assert c)(assert a 1)(retract 7)")
	for mode := range 2 {
		a, b := impl.Follow(rules, modesOf(2, mode), 9, false, straight), impl.Follow(rules, modesOf(2, mode), 9, false, around)
		if x, y := a[len(a)-1].Size, b[len(b)-1].Size; x != y || x == 0 {
			t.Errorf("mode %d: %d and %d", mode, x, y)
		}
	}
}
