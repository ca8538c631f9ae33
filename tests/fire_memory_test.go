package tests

import (
	"testing"

	"loop.example/s01311/impl"
)

const fireText = "(rule p 2 (a ?x)(b ?y _)(not c 9) => (add d (+ ?x ?y) x)(mod 1 9)(mod 2 1 1)(add c 9))(rule q 0 (a ?x)(a _) => (halt))(rule s 0 (b _ _) =>)"

// A shelf has all arguments of the calls of the agenda and of a firing.
type shelf struct {
	rules []impl.Rule
	store impl.Store
	insts []impl.Inst
	tags  []int
	binds []impl.Bind
}

// newShelf has lists with memory to spare behind them.
func newShelf(t *testing.T) shelf {
	b := shelf{rules: checkedRules(t, fireText), store: storeOf(t, "a 1; b 2 3; e x; a 4", 9, false)}
	b.rules = append(b.rules, impl.Rule{})[:len(b.rules)]
	b.store.Facts = append(b.store.Facts, newFact(9, "z"))[:len(b.store.Facts)]
	for i, f := range b.store.Facts {
		b.store.Facts[i].Slots = append(f.Slots, number(99))[:len(f.Slots)]
	}
	b.insts = instsOf(t, "2:2 1:1,4 1:4,1 0:4,2 0:1,2 7:7")[:5]
	for i, x := range b.insts {
		b.insts[i].Tags = append(x.Tags, 99)[:len(x.Tags)]
	}
	b.tags = []int{3, 1, 2, 3, 99}[:4]
	b.binds = []impl.Bind{{Var: "x", Val: number(1)}, {Var: "y", Val: number(2)}, {Var: "z"}}[:2]
	return b
}

// calls tells the answers of all functions that take what is on the shelf. The
// firings are one that changes much, one that halts at once and one that does
// nothing.
func (b shelf) calls() []any {
	order := []any{impl.Recency(b.tags), impl.Before(b.rules, b.insts[0], b.insts[1]), impl.Agenda(b.rules, b.insts), impl.Modes(b.rules, 2), impl.Modes(b.rules, 3)}
	return append(order, impl.EvalExpr(b.rules[0].Exprs, b.binds, 2),
		impl.Fire(b.rules, b.store, b.insts[4]), impl.Fire(b.rules, b.store, b.insts[1]), impl.Fire(b.rules, b.store, b.insts[0]))
}

// spare shows what lies behind the lists too.
func (b shelf) spare() []any {
	out := []any{whole(b.rules), wholeStore(b.store), whole(b.insts), whole(b.tags), whole(b.binds)}
	for _, x := range b.insts {
		out = append(out, whole(x.Tags))
	}
	return out
}

func (b shelf) ruin() {
	for _, f := range facesOfRules(b.rules) {
		f.write()
	}
	for _, f := range append(facesOfInsts(b.insts), facesOfStore(b.store)...) {
		f.write()
	}
	faceOf("tags", b.tags, 77, func(n int) any { return n }).write()
	faceOf("binds", b.binds, impl.Bind{Var: "scrawl"}, func(x impl.Bind) any { return x }).write()
}

func facesOfStore(s impl.Store) []face {
	var out []face
	for _, f := range s.Facts {
		out = append(out, faceOf("slots", f.Slots, symbol("scrawl"), func(v impl.Value) any { return v }))
	}
	return append(out, faceOf("facts", s.Facts, newFact(77, "scrawl"), func(f impl.Fact) any { return f.Tag }))
}

func facesOfFired(f impl.Fired) []face {
	return append(facesOfInsts(f.Gone), facesOfStore(f.Store)...)
}

func TestShelfIsTelling(t *testing.T) {
	b := newShelf(t)
	for _, x := range b.insts {
		if f := impl.Fire(b.rules, b.store, x); f.Code != impl.CodeOK || len(f.Store.Facts) < 4 {
			t.Errorf("%s: %+v", showInst(x), f)
		}
	}
	if f := impl.Fire(b.rules, b.store, b.insts[4]); showInsts(f.Gone) != "0:1,2 0:4,2 1:1,1 1:1,4 1:4,1 2:2" {
		t.Errorf("%+v", f)
	}
}

func TestFiringsWriteToNoArgument(t *testing.T) {
	b := newShelf(t)
	first := b.calls()
	if !same(b.spare(), newShelf(t).spare()) {
		t.Error("an argument is written to")
	}
	if !same(first, b.calls()) {
		t.Error("a second call answers another thing")
	}
}

func TestFiringsShareNothingWithArguments(t *testing.T) {
	b, fresh := newShelf(t), newShelf(t)
	answers := b.calls()
	b.ruin()
	if !same(answers, fresh.calls()) {
		t.Error("an answer lies in the memory of an argument")
	}
}

// The other way about: what is written into an answer does not reach arguments.
func TestFiringsMayBeWrittenTo(t *testing.T) {
	b := newShelf(t)
	faces := facesOfInsts(impl.Agenda(b.rules, b.insts))
	for _, x := range b.insts {
		faces = append(faces, facesOfFired(impl.Fire(b.rules, b.store, x))...)
	}
	for _, list := range [][]int{impl.Recency(b.tags), impl.Modes(b.rules, 2)} {
		faces = append(faces, faceOf("numbers", list, 77, func(n int) any { return n }))
	}
	for _, f := range faces {
		f.write()
	}
	if !same(b.spare(), newShelf(t).spare()) || !same(b.calls(), newShelf(t).calls()) {
		t.Error("an argument lies in the memory of an answer")
	}
}

func TestListsOfFiringsShareNothing(t *testing.T) {
	b := newShelf(t)
	twice := append(b.insts[:5:5], b.insts...)
	wantApart(t, func() []face { return facesOfInsts(impl.Agenda(b.rules, twice)) })
	for _, x := range b.insts {
		wantApart(t, func() []face { return facesOfFired(impl.Fire(b.rules, b.store, x)) })
	}
}

func TestFiringEmptyListsAndNil(t *testing.T) {
	empty := impl.Rule{Name: "r", Pats: []impl.Pattern{{Cls: "a", Terms: []impl.Term{}}}, Exprs: []impl.Expr{}, Acts: []impl.Action{{Kind: impl.ActMod, K: 1, Args: []int{}}}}
	none := impl.Rule{Name: "r", Pats: []impl.Pattern{{Cls: "a"}}, Acts: []impl.Action{{Kind: impl.ActMod, K: 1}}}
	for _, r := range []impl.Rule{empty, none} {
		for _, slots := range [][]impl.Value{nil, {}} {
			s := impl.Store{Facts: []impl.Fact{{Tag: 1, Cls: "a", Slots: slots}}, Next: 2, Cap: 1, Single: true}
			got := impl.Fire([]impl.Rule{r}, s, impl.Inst{Tags: []int{1}})
			if got.Code != impl.CodeOK || showFacts(got.Store.Facts) != "2:a" || showInsts(got.Gone) != "0:1" {
				t.Errorf("%+v", got)
			}
		}
		if len(impl.Agenda([]impl.Rule{r}, nil)) != 0 || len(impl.Agenda([]impl.Rule{r}, []impl.Inst{})) != 0 {
			t.Error("none, but an agenda")
		}
	}
	if len(impl.Modes([]impl.Rule{}, 2)) != 0 || len(impl.Modes(nil, 2)) != 0 {
		t.Error("no rules, but modes")
	}
}
