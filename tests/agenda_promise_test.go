package tests

import (
	"slices"
	"testing"

	"loop.example/s01311/impl"
)

// Promise 9: a permutation, in which nothing comes ahead of what stands before
// it; and the model's agenda besides.
func wantAgenda(t *testing.T, rules []impl.Rule, list []impl.Inst) {
	t.Helper()
	got := impl.Agenda(rules, list)
	counts := map[string]int{}
	for _, x := range list {
		counts[showInst(x)]++
	}
	for _, x := range got {
		counts[showInst(x)]--
	}
	for text, n := range counts {
		if n != 0 {
			t.Fatalf("%s of %s: %s is there %d times less", showInsts(got), showInsts(list), text, n)
		}
	}
	for i := range got {
		for j := range i {
			if impl.Before(rules, got[i], got[j]) {
				t.Fatalf("%s: %s comes ahead of %s", showInsts(got), showInst(got[i]), showInst(got[j]))
			}
		}
	}
	if want := modelAgenda(rules, list); !equalInsts(got, want) {
		t.Fatalf("%s of %s, asked for %s", showInsts(got), showInsts(list), showInsts(want))
	}
}

func (d *dice) rankedRules(t *testing.T, n int) []impl.Rule {
	var saliences []int64
	for range n {
		saliences = append(saliences, []int64{0, 0, 1, -1, leastNumber, mostNumber}[d.roll(6)])
	}
	return ranked(t, saliences...)
}

func TestAgendasKeepPromise9(t *testing.T) {
	d := dice(22)
	for range 1500 {
		rules := d.rankedRules(t, 1+d.roll(5))
		wantAgenda(t, rules, d.anyInsts(len(rules), d.roll(30)))
	}
	rules := d.rankedRules(t, impl.MaxRules)
	wantAgenda(t, rules, d.anyInsts(len(rules), 400))
}

// The agenda of a conflict set does not hang on the order of what is given.
func TestAgendaOfConflictSets(t *testing.T) {
	d, found := dice(23), 0
	for range 900 {
		rules := d.smallRules(1 + d.roll(3))
		for i := range rules {
			rules[i].Salience = int64(d.roll(3) - 1)
		}
		conflict := impl.Conflict(rules, d.smallFacts(d.roll(6)))
		if len(conflict) > 200 {
			continue
		}
		wantAgenda(t, rules, conflict)
		first := impl.Agenda(rules, conflict)
		slices.Reverse(conflict)
		if second := impl.Agenda(rules, conflict); !equalInsts(first, second) {
			t.Fatalf("%s and %s", showInsts(first), showInsts(second))
		}
		found += len(conflict)
	}
	if found < 1000 {
		t.Errorf("%d instantiations say little", found)
	}
}

// Before is an order: of two that differ one comes ahead, and what comes ahead
// of what comes ahead does so too.
func TestBeforeIsAnOrder(t *testing.T) {
	d := dice(24)
	for range 4000 {
		rules := ranked(t, []int64{0, 0, int64(d.roll(3) - 1)}...)
		a, b, c := d.anyInst(3), d.anyInst(3), d.anyInst(3)
		for _, pair := range [][2]impl.Inst{{a, b}, {b, c}, {a, c}} {
			x, y := pair[0], pair[1]
			if got, want := impl.Before(rules, x, y), modelAhead(rules, x, y); got != want {
				t.Fatalf("%s ahead of %s: %v, asked for %v", showInst(x), showInst(y), got, want)
			}
			one, other := impl.Before(rules, x, y), impl.Before(rules, y, x)
			if one && other || !one && !other && showInst(x) != showInst(y) {
				t.Fatalf("%s and %s: %v and %v", showInst(x), showInst(y), one, other)
			}
		}
		if impl.Before(rules, a, b) && impl.Before(rules, b, c) && !impl.Before(rules, a, c) {
			t.Fatalf("%s, %s, %s", showInst(a), showInst(b), showInst(c))
		}
	}
}
