package tests

import (
	"testing"

	"loop.example/s01311/impl"
)

func (d *dice) smallBinds() []impl.Bind {
	var binds []impl.Bind
	for _, name := range []string{"x", "y", "z"} {
		if d.roll(2) == 0 {
			binds = append(binds, impl.Bind{Var: name, Val: d.smallSlotsOf(1)[0]})
		}
	}
	return binds
}

// The first half of promise 4: what agrees, whatever is bound, passes.
func TestWhatAgreesPassesTheAlpha(t *testing.T) {
	d, agreed, passed := dice(6), 0, 0
	for range 60000 {
		n := d.roll(4)
		p, f, binds := patternOf(t, d.smallPattern(n)), newFact(1, d.pick("a", "a", "b"), d.smallSlotsOf(n)...), d.smallBinds()
		pass := impl.AlphaPass(impl.AlphaOf(p), f)
		_, agrees := modelAgree(p, f, binds)
		if agrees && !pass {
			t.Fatalf("%+v agrees with %+v, %+v being bound, but does not pass", f, p, binds)
		}
		if agrees {
			agreed++
		}
		if pass {
			passed++
		}
	}
	if agreed < 5000 || passed < agreed+2000 || passed > 50000 {
		t.Errorf("%d agreed and %d passed: the walk says little", agreed, passed)
	}
}

// Without a variable that is asked ahead of its pattern's own TermVar, an Alpha
// asks all that a pattern does if nothing is bound.
func TestAlphaOfAPatternOfItsOwn(t *testing.T) {
	d := dice(7)
	for range 20000 {
		n := d.roll(4)
		p, f := patternOf(t, d.smallPattern(n)), newFact(1, "a", d.smallSlotsOf(n)...)
		if p.Neg || impl.CheckRules([]impl.Rule{{Name: "r", Pats: []impl.Pattern{p}}}).Code != impl.CheckOK {
			continue
		}
		pass := impl.AlphaPass(impl.AlphaOf(p), f)
		if _, agrees := modelAgree(p, f, nil); agrees != pass {
			t.Fatalf("%+v and %+v: agrees %v, passes %v", p, f, agrees, pass)
		}
	}
}

// The second half: equal Alphas have one number, and each pattern its own.
func TestNumbersOfAlphas(t *testing.T) {
	d := dice(8)
	for range 400 {
		rules := d.smallRules(1 + d.roll(impl.MaxRules))
		n := impl.AlphaNet(rules)
		for i := range n.Alphas {
			for k := range i {
				if same(n.Alphas[i], n.Alphas[k]) {
					t.Fatalf("Alpha %d and Alpha %d are equal: %s", i, k, showNet(n))
				}
			}
		}
		wantNumbers(t, rules, n)
	}
}

// wantNumbers goes through the patterns: each has the number of its Alpha, and
// a number that is new is the next one.
func wantNumbers(t *testing.T, rules []impl.Rule, n impl.Net) {
	t.Helper()
	if len(n.Of) != len(rules) {
		t.Fatal(showNet(n))
	}
	next := 0
	for i, r := range rules {
		if len(n.Of[i]) != len(r.Pats) {
			t.Fatal(showNet(n))
		}
		for k, number := range n.Of[i] {
			if number < 0 || number > next || number >= len(n.Alphas) || !same(n.Alphas[number], modelAlpha(r.Pats[k])) {
				t.Fatalf("rule %d, pattern %d: number %d of %s", i, k, number, showNet(n))
			}
			next = max(next, number+1)
		}
	}
	if next != len(n.Alphas) {
		t.Fatalf("%d Alphas are used: %s", next, showNet(n))
	}
}

func TestMemoriesAgainstTheModel(t *testing.T) {
	d := dice(9)
	for range 300 {
		n, facts := impl.AlphaNet(d.smallRules(3)), d.smallFacts(d.roll(15))
		got := impl.AlphaMems(n, facts)
		if len(got) != len(n.Alphas) {
			t.Fatal(len(got))
		}
		for i, a := range n.Alphas {
			var want []int
			for _, f := range facts {
				if impl.AlphaPass(a, f) {
					want = append(want, f.Tag)
				}
			}
			if !same(got[i], want) {
				t.Fatalf("%s over %+v: %v, asked for %v", showAlpha(a), facts, got[i], want)
			}
		}
	}
}
