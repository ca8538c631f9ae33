package tests

import (
	"runtime"
	"slices"
	"sync"
	"testing"
	"time"

	"loop.example/s01311/impl"
)

const (
	crowdText   = "(rule p 2 (a ?x)(b ?y _)(not c 9) => (add d (+ ?x ?y) x)(mod 2 1 1))(rule q 1 (a ?x)(a _) =>)(rule s 0 (b _ _) => (halt))"
	crowdScript = "(assert a 1)(assert b 2 3)(assert a 4)(run 5)(modify 1 7 8)(run 3)(assert e x y)(run 9)(retract 1)(run 1)"
)

// runCalls tells the answers of runs over what is on the shelf: by fuel, by a
// halt, with nothing left, and refused.
func (b shelf) runCalls() []any {
	return []any{impl.RunRules(b.rules, b.store, b.insts, 2), impl.RunRules(b.rules, b.store, nil, 9), impl.RunRules(b.rules[2:], b.store, b.insts[:1], 9),
		impl.RunRules(b.rules, b.store, b.insts, 0), impl.RunRules(b.rules, b.store, b.insts, -1)}
}

func facesOfFirings(list []impl.Firing) []face {
	out := []face{faceOf("firings", list, impl.Firing{Rule: 77}, func(f impl.Firing) any { return f.Rule })}
	for _, f := range list {
		out = append(out, faceOf("tags", f.Tags, 77, func(n int) any { return n }))
	}
	return out
}

func facesOfRan(r impl.Ran) []face {
	return slices.Concat(facesOfFirings(r.Fired), facesOfStore(r.Store), facesOfInsts(r.Spent))
}

func facesOfOutcome(o impl.Outcome) []face {
	out := []face{faceOf("replies", o.Replies, impl.Reply{Kind: 77}, func(r impl.Reply) any { return r.Kind })}
	for _, r := range o.Replies {
		out = append(out, facesOfFirings(r.Fired)...)
	}
	return append(out, facesOfStore(impl.Store{Facts: o.Facts})...)
}

func TestRunsOfTheShelfAreTelling(t *testing.T) {
	b := newShelf(t)
	if got := impl.RunRules(b.rules, b.store, b.insts, 0); showInsts(got.Spent) != "0:1,2 0:4,2 1:1,4 1:4,1 2:2" {
		t.Errorf("%+v", got)
	}
	if got := impl.RunRules(b.rules, b.store, nil, 9); got.Stop != atHalt || len(got.Fired) != 3 || len(got.Spent) != 2 || len(got.Store.Facts) != 6 {
		t.Errorf("%+v", got)
	}
	out := impl.Session([]byte(crowdText), []byte(crowdScript), 2, 9, false)
	fired := 0
	for _, r := range out.Replies {
		fired += len(r.Fired)
	}
	if out.Code != impl.OutOK || fired != 9 || len(out.Facts) < 4 {
		t.Errorf("%d firings: %+v", fired, out)
	}
}

func TestRunsWriteToNoArgument(t *testing.T) {
	b := newShelf(t)
	first := b.runCalls()
	if !same(b.spare(), newShelf(t).spare()) {
		t.Error("an argument is written to")
	}
	if !same(first, b.runCalls()) {
		t.Error("a second call answers another thing")
	}
}

func TestRunsShareNothingWithArguments(t *testing.T) {
	b, fresh := newShelf(t), newShelf(t)
	answers := b.runCalls()
	b.ruin()
	if !same(answers, fresh.runCalls()) {
		t.Error("an answer lies in the memory of an argument")
	}
}

// The other way about: what is written into an answer does not reach arguments.
func TestRunsMayBeWrittenTo(t *testing.T) {
	b := newShelf(t)
	for _, n := range []int{0, 1, 2, 9} {
		for _, f := range facesOfRan(impl.RunRules(b.rules, b.store, b.insts, n)) {
			f.write()
		}
	}
	if !same(b.spare(), newShelf(t).spare()) {
		t.Error("an argument lies in the memory of an answer")
	}
}

func TestListsOfRunsShareNothing(t *testing.T) {
	b := newShelf(t)
	twice := append(b.insts[:5:5], b.insts...)
	for _, n := range []int{0, 1, 3, 9} {
		wantApart(t, func() []face { return facesOfRan(impl.RunRules(b.rules, b.store, twice[:2], n)) })
		wantApart(t, func() []face { return facesOfRan(impl.RunRules(b.rules, b.store, twice, n)) })
	}
	for how := range 4 {
		wantApart(t, func() []face {
			return facesOfOutcome(impl.Session([]byte(crowdText), []byte(crowdScript), how, 9, false))
		})
	}
}

func TestSessionTextsAreNotKeptOrWrittenTo(t *testing.T) {
	src, script := append(make([]byte, 0, 1000), crowdText...), append(make([]byte, 0, 1000), crowdScript...)
	got := impl.Session(src, script, 2, 9, false)
	if string(src) != crowdText || string(script) != crowdScript {
		t.Fatal("a text is written to")
	}
	for _, list := range [][]byte{src, script} {
		for _, b := range whole(list)[len(list):] {
			if b != 0 {
				t.Fatal("what lies behind a text is written to")
			}
		}
		for i := range list {
			list[i] = '('
		}
	}
	if !equalOutcomes(got, impl.Session([]byte(crowdText), []byte(crowdScript), 2, 9, false)) {
		t.Error("the outcome hangs on the texts' memory")
	}
}

func TestRunEmptyListsAndNil(t *testing.T) {
	s := storeOf(t, "a 1", 2, false)
	rules := checkedRules(t, passive)
	if !equalRan(impl.RunRules(rules, s, nil, 3), impl.RunRules(rules, s, []impl.Inst{}, 3)) {
		t.Error("nothing spent and an empty list of it differ")
	}
	none, empty := impl.Store{Next: 1, Cap: 2}, impl.Store{Facts: []impl.Fact{}, Next: 1, Cap: 2}
	if !equalRan(impl.RunRules(rules, none, nil, 3), impl.RunRules(rules, empty, nil, 3)) {
		t.Error("no facts and an empty list of them differ")
	}
	if !equalOutcomes(impl.Session(nil, nil, 0, 0, false), impl.Session([]byte{}, []byte{}, 0, 0, false)) {
		t.Error("no text and an empty one differ")
	}
	spent := []impl.Inst{{Rule: 0, Tags: []int{}}, {Rule: 0}}
	if got := impl.RunRules(rules, s, spent, 3); showFirings(got.Fired) != "0:1" {
		t.Errorf("%+v", got)
	}
}

// All goroutines of a call have ended when it answers, but for the last step of
// one, which is waited for here.
func TestRunsLeaveNoGoroutine(t *testing.T) {
	b := newShelf(t)
	before := runtime.NumGoroutine()
	for range 200 {
		b.runCalls()
		impl.Session([]byte(crowdText), []byte(crowdScript), 3, 9, false)
	}
	for range 200 {
		if runtime.NumGoroutine() <= before {
			return
		}
		time.Sleep(5 * time.Millisecond)
	}
	t.Errorf("%d goroutines, %d before", runtime.NumGoroutine(), before)
}

// Calls side by side do not know of each other.
func TestRunsSideBySide(t *testing.T) {
	b := newShelf(t)
	want := b.runCalls()
	outcome := impl.Session([]byte(crowdText), []byte(crowdScript), 3, 9, false)
	var group sync.WaitGroup
	for range 8 {
		group.Go(func() {
			for range 50 {
				if !same(b.runCalls(), want) || !equalOutcomes(impl.Session([]byte(crowdText), []byte(crowdScript), 3, 9, false), outcome) {
					t.Error("another answer")
				}
			}
		})
	}
	group.Wait()
}
