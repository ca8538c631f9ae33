package tests

import (
	"slices"
	"testing"

	"loop.example/s01311/impl"
)

// fullOps fills a store to MaxFacts with facts of the class "a", then changes
// and drops some, up to MaxOps operations.
func fullOps() []impl.WmOp {
	var ops []impl.WmOp
	for i := range impl.MaxFacts {
		ops = append(ops, impl.WmOp{Kind: impl.CmdAssert, Cls: "a", Slots: values(number(int64(i % 10)))})
	}
	ops = append(ops, impl.WmOp{Kind: impl.CmdAssert, Cls: "a"})
	for i := range 10 {
		ops = append(ops, impl.WmOp{Kind: impl.CmdModify, Tag: 3*i + 1, Slots: values(number(int64(10 + i)))})
	}
	for i := range impl.MaxOps - len(ops) {
		ops = append(ops, impl.WmOp{Kind: impl.CmdRetract, Tag: 3*i + 2})
	}
	return ops
}

// power is how many lists of k there are of n.
func power(n, k int) int {
	if k == 0 {
		return 1
	}
	return n * power(n, k-1)
}

// As many facts, rules and operations as there may be, where all facts agree.
func TestFullStoreAndRules(t *testing.T) {
	rules := checkedRules(t, times(impl.MaxRules, "(rule r# 0 (not b)(a _)(not b _)(a _) =>)"))
	tokens := func(n int) int { return impl.MaxRules * (1 + 2*n + n*n) }
	for _, modes := range [][]int{modesOf(16, 0), modesOf(16, 1), mixedModes(16, 0)} {
		steps := impl.Follow(rules, modes, impl.MaxFacts, false, fullOps())
		if len(steps) != impl.MaxOps {
			t.Fatal(len(steps))
		}
		n, insts := 0, 0
		for i, s := range steps {
			switch {
			case i < impl.MaxFacts:
				n++
			case i == impl.MaxFacts && s.Code != impl.CodeFull:
				t.Fatal(s.Code)
			case i > impl.MaxFacts+10:
				n--
			}
			insts += len(s.Adds) - len(s.Drops)
			rete, treat := tokens(n), impl.MaxRules*n*n
			want := []int{rete, treat}[modes[0]]
			if modes[0] != modes[1] {
				want = (rete + treat) / 2
			}
			if insts != treat || s.Size != want {
				t.Fatalf("step %d, %d facts: %d instantiations, size %d, asked for %d and %d", i, n, insts, s.Size, treat, want)
			}
		}
	}
}

// All three patterns of a rule over MaxFacts facts that agree with each.
func TestGreatestConflictSet(t *testing.T) {
	rules := checkedRules(t, "(rule p 0 (a _)(a _)(a _) =>)(rule q 0 (a ?x)(a (> ?x))(not a (> 100)) =>)")
	facts := manyFacts(impl.MaxFacts)
	conflict := impl.Conflict(rules, facts)
	if want := power(impl.MaxFacts, 3) + impl.MaxFacts*(impl.MaxFacts-1)/2; len(conflict) != want {
		t.Fatalf("%d, asked for %d", len(conflict), want)
	}
	if !slices.IsSortedFunc(conflict, func(a, b impl.Inst) int {
		if a.Rule != b.Rule {
			return a.Rule - b.Rule
		}
		return slices.Compare(a.Tags, b.Tags)
	}) {
		t.Error("not in order")
	}
	if first, last := showInst(conflict[0]), showInst(conflict[power(impl.MaxFacts, 3)-1]); first != "0:1,1,1" || last != "0:40,40,40" {
		t.Error(first, last)
	}
	ops := fullOps()[:impl.MaxFacts]
	for mode := range 2 {
		steps := impl.Follow(rules[:1], []int{mode}, impl.MaxFacts, false, ops)
		if got, want := len(steps[39].Adds), power(40, 3)-power(39, 3); got != want || len(steps[39].Drops) != 0 {
			t.Errorf("mode %d: %d adds, asked for %d", mode, got, want)
		}
		if want := []int{40 + 1600 + 64000, 64000}[mode]; steps[39].Size != want {
			t.Errorf("mode %d: size %d, asked for %d", mode, steps[39].Size, want)
		}
	}
}

// With Single set equal facts come in once; the tags go on all the same.
func TestSingleInFollow(t *testing.T) {
	rules := checkedRules(t, "(rule p 0 (a ?x)(a ?x) =>)")
	for mode := range 2 {
		steps := impl.Follow(rules, []int{mode}, impl.MaxFacts, true, fullOps())
		for i, s := range steps[:impl.MaxFacts] {
			if i < 10 && (s.Code != impl.CodeOK || s.Tag != i+1) || i >= 10 && (s.Code != impl.CodeDup || s.Tag != i%10+1 || len(s.Adds) != 0) {
				t.Errorf("mode %d, step %d: %+v", mode, i, s)
			}
		}
		if got, want := steps[39].Size, []int{20, 10}[mode]; got != want {
			t.Errorf("mode %d: size %d, asked for %d", mode, got, want)
		}
	}
}
