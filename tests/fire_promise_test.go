package tests

import (
	"slices"
	"testing"

	"loop.example/s01311/impl"
)

// cutTo is the rule with its first actions alone.
func cutTo(r impl.Rule, acts int) impl.Rule {
	r.Acts = slices.Clone(r.Acts[:acts])
	exprs := 0
	for _, a := range r.Acts {
		if n := len(a.Args); n > 0 {
			exprs = a.Args[n-1] + 1
		}
	}
	r.Exprs = slices.Clone(r.Exprs[:exprs])
	return r
}

// checkPromise10 holds a firing against the promise's words: with a fault at an
// action it is the firing of the rule with the actions before that one alone;
// and what has left the conflict set, which is that of the store behind it, is
// in Gone.
func checkPromise10(t *testing.T, rules []impl.Rule, s impl.Store, x impl.Inst, f impl.Fired) {
	t.Helper()
	if !impl.StoreValid(f.Store) || f.Store.Next < s.Next || f.Store.Cap != s.Cap || f.Store.Single != s.Single {
		t.Fatalf("%s: %+v behind %+v", showInst(x), f.Store, s)
	}
	if f.Code == impl.CodeOK && f.At != 0 || f.Code != impl.CodeOK && (f.Halt || f.At < 1 || f.At > len(rules[x.Rule].Acts)) {
		t.Fatalf("%s: %+v", showInst(x), f)
	}
	if f.Code != impl.CodeOK {
		short := slices.Clone(rules)
		short[x.Rule] = cutTo(rules[x.Rule], f.At-1)
		want := f
		want.Code, want.At = impl.CodeOK, 0
		if got := impl.Fire(short, s, x); !equalFired(got, want) {
			t.Fatalf("%s of %s: the actions ahead of the fault do %+v, with it %+v", showInst(x), impl.PrintRules(rules), got, f)
		}
	}
	ahead, behind := impl.Conflict(rules, s.Facts), impl.Conflict(rules, f.Store.Facts)
	if more := missing(missing(ahead, behind), f.Gone); len(more) != 0 {
		t.Fatalf("%s: %s have left and are not in Gone", showInst(x), showInsts(more))
	}
	if more := missing(f.Gone, ahead); len(more) != 0 {
		t.Fatalf("%s: %s are in Gone and were not there", showInst(x), showInsts(more))
	}
}

// A tally says what a walk has met; back are those in Gone that are in the
// conflict set again at the end.
type tally struct {
	codes map[int]int
	halts int
	gone  int
	back  int
}

func (c *tally) note(rules []impl.Rule, f impl.Fired) {
	c.codes[f.Code]++
	if f.Halt {
		c.halts++
	}
	behind := impl.Conflict(rules, f.Store.Facts)
	c.back += len(f.Gone) - len(missing(f.Gone, behind))
	c.gone += len(f.Gone)
}

func TestFiringsKeepPromise10(t *testing.T) {
	d, met := dice(40), tally{codes: map[int]int{}}
	for range 4000 {
		rules, s := d.actingRules(1+d.roll(3)), d.smallStore(d.roll(7))
		if !impl.StoreValid(s) {
			t.Fatalf("%+v", s)
		}
		conflict := impl.Conflict(rules, s.Facts)
		for range min(3, len(conflict)) {
			x := conflict[d.roll(len(conflict))]
			got := impl.Fire(rules, s, x)
			if want := modelFire(rules, s, x); !equalFired(got, want) {
				t.Fatalf("%s fires %s over %s: answered\n%+v, asked for\n%+v", impl.PrintRules(rules), showInst(x), showFacts(s.Facts), got, want)
			}
			checkPromise10(t, rules, s, x, got)
			met.note(rules, got)
		}
		x := d.anyInst(len(rules))
		if got, want := impl.Fire(rules, s, x), modelFire(rules, s, x); !equalFired(got, want) {
			t.Fatalf("%s fires %s over %s: answered\n%+v, asked for\n%+v", impl.PrintRules(rules), showInst(x), showFacts(s.Facts), got, want)
		}
	}
	for _, code := range []int{impl.CodeOK, impl.CodeDup, impl.CodeFull, impl.CodeTags, impl.CodeNone, impl.CodeOver, impl.CodeZero, impl.CodeType} {
		if met.codes[code] < 10 {
			t.Errorf("code %d was met %d times", code, met.codes[code])
		}
	}
	if met.halts < 100 || met.gone < 3000 {
		t.Errorf("%d halts, %d gone: the walk says little", met.halts, met.gone)
	}
}

// Facts that are modified over and over, so that others are barred and freed
// within one firing.
func TestFiringsThatBarAndFree(t *testing.T) {
	d, met := dice(41), tally{codes: map[int]int{}}
	for range 1500 {
		text := "(rule p 0 (b ?x)(a ?y) =>"
		for range 2 + d.roll(5) {
			text += " " + d.pick("(mod 1 1)", "(mod 1 2)", "(mod 1 ?y)", "(mod 2 1)", "(mod 2 ?x)", "(add b 2)", "(add a 1)", "(drop 2)")
		}
		text += ")(rule q 0 (a ?x)(not b " + d.pick("1", "2", "?x", "(> ?x)") + ") =>)(rule s 0 (not a " + d.pick("1", "2") + ")(c ?x)(b _) =>)(rule u 0 (c ?x)(not a ?x)(not b ?x) =>)"
		rules := checkedRules(t, text)
		s := storeOf(t, "c "+d.pick("1", "2")+"; b "+d.smallValue()+"; a "+d.smallValue()+"; a "+d.smallValue()+"; c 2", 6+d.roll(4), false)
		for _, x := range impl.Conflict(rules[:1], s.Facts) {
			got := impl.Fire(rules, s, x)
			if want := modelFire(rules, s, x); !equalFired(got, want) {
				t.Fatalf("%s over %s: answered\n%+v, asked for\n%+v", text, showFacts(s.Facts), got, want)
			}
			checkPromise10(t, rules, s, x, got)
			met.note(rules, got)
		}
	}
	if met.back < 300 || met.gone < 5000 {
		t.Errorf("%d gone, %d of them back: the walk says little", met.gone, met.back)
	}
}

// A row of firings, each of the first of the agenda: the rules' own numbers,
// and the store, go from one to the next.
func TestFiringsInARow(t *testing.T) {
	rules := checkedRules(t, "(rule step 0 (n ?a ?b)(not stop ?b) => (mod 1 ?b (+ ?a ?b)))(rule end -1 (n ?a _) => (add out ?a)(halt))")
	s := storeOf(t, "n 0 1; stop 144", 5, true)
	var fired impl.Fired
	count := 0
	for !fired.Halt {
		agenda := impl.Agenda(rules, impl.Conflict(rules, s.Facts))
		if len(agenda) == 0 || count > 50 {
			t.Fatalf("%d firings, %d to fire", count, len(agenda))
		}
		fired = impl.Fire(rules, s, agenda[0])
		if fired.Code != impl.CodeOK {
			t.Fatalf("%+v", fired)
		}
		s = fired.Store
		count++
	}
	if got := showFacts(s.Facts); count != 12 || got != "2:stop 144; 13:n 89 144; 14:out 89" {
		t.Errorf("%d firings: %s", count, got)
	}
}

// As many instantiations as a rule can have are looked at behind each action.
func TestFireOverAFullConflictSet(t *testing.T) {
	rules := checkedRules(t, "(rule p 0 (a _)(a _)(a _)(not b) => (mod 2 77)(drop 1)(add b))")
	s := impl.Store{Facts: manyFacts(impl.MaxFacts), Next: impl.MaxFacts + 1, Cap: impl.MaxFacts}
	got := impl.Fire(rules, s, instOf(t, "0:40,1,40"))
	if got.Code != impl.CodeOK || len(got.Gone) != power(impl.MaxFacts, 3) || len(got.Store.Facts) != impl.MaxFacts {
		t.Fatal(got.Code, got.At, len(got.Gone))
	}
	for i, tags := range tuples(s.Facts, 3) {
		if !slices.Equal(got.Gone[i].Tags, tags) {
			t.Fatalf("%d: %v, asked for %v", i, got.Gone[i].Tags, tags)
		}
	}
}
