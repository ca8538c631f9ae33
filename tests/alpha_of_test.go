package tests

import (
	"strconv"
	"testing"

	"loop.example/s01311/impl"
)

func showValue(v impl.Value) string {
	switch {
	case v == number(v.Num):
		return strconv.FormatInt(v.Num, 10)
	case v == symbol(v.Sym):
		return v.Sym
	}
	return "?"
}

// showAlpha writes a test as its slot, its operator and a value or '@' and
// another slot; what is in Val beside another slot is written too.
func showAlpha(a impl.Alpha) string {
	ops := []string{"none", "=", "!=", "<", ">", "<=", ">="}
	text := a.Cls + "/" + strconv.Itoa(a.Arity)
	for _, x := range a.Tests {
		text += " " + strconv.Itoa(x.Slot) + ops[x.Op]
		if x.Other != -1 {
			text += "@" + strconv.Itoa(x.Other)
		}
		if x.Other == -1 || x.Val != (impl.Value{}) {
			text += showValue(x.Val)
		}
	}
	return text
}

func TestAlphasOfPatterns(t *testing.T) {
	for _, row := range [][2]string{
		{"(a)", "a/0"},
		{"(not a)", "a/0"},
		{"(a _ _)", "a/2"},
		{"(a _ _ _ _ _ _)", "a/6"},
		{"(a 1 _ x 0)", "a/4 0=1 2=x 3=0"},
		{"(a 1 2 3 4 5 6)", "a/6 0=1 1=2 2=3 3=4 4=5 5=6"},
		{"(not a 1 _ x)", "a/3 0=1 2=x"},
		{"(a (= 1) (!= 2) (< 3) (> 4) (<= 5) (>= 6))", "a/6 0=1 1!=2 2<3 3>4 4<=5 5>=6"},
		{"(a (= x) (!= y) (< z) (> u) (<= v) (>= w))", "a/6 0=x 1!=y 2<z 3>u 4<=v 5>=w"},
		// A variable alone gives no test, a second time it does.
		{"(a ?x ?y)", "a/2"},
		{"(a ?x ?x)", "a/2 1=@0"},
		{"(a _ ?x ?x)", "a/3 2=@1"},
		{"(a ?x ?x ?x ?x)", "a/4 1=@0 2=@0 3=@0"},
		{"(a ?x ?y ?x ?y ?y ?x)", "a/6 2=@0 3=@1 4=@1 5=@0"},
		{"(not a ?x ?x)", "a/2 1=@0"},
		// A test on a variable of the pattern, if it is bound ahead of the test.
		{"(a ?x (> ?x))", "a/2 1>@0"},
		{"(a ?x (= ?x) (!= ?x) (< ?x) (<= ?x) (>= ?x))", "a/6 1=@0 2!=@0 3<@0 4<=@0 5>=@0"},
		{"(a _ ?x ?x (< ?x))", "a/4 2=@1 3<@1"},
		{"(a (> ?x))", "a/1"},
		{"(a (> ?x) ?x)", "a/2"},
		{"(a (> ?x) ?x (< ?x) ?x)", "a/4 2<@1 3=@1"},
		{"(a (> ?y) ?x (< ?y))", "a/3"},
		{"(a (= ?x) (= ?x))", "a/2"},
		{"(a ?x 1 (< 2) _ (> ?x) ?x)", "a/6 1=1 2<2 4>@0 5=@0"},
		// Names and values that look alike.
		{"(x ?x x (= x) (= ?x))", "x/4 1=x 2=x 3=@0"},
		{"(a -9223372036854775808 (< 9223372036854775807))", "a/2 0=-9223372036854775808 1<9223372036854775807"},
	} {
		if got := showAlpha(impl.AlphaOf(patternOf(t, row[0]))); got != row[1] {
			t.Errorf("%s: %s, asked for %s", row[0], got, row[1])
		}
	}
}

// wrongPatterns are patterns that are not right, of the spoils of the language.
func wrongPatterns() []impl.Pattern {
	var list []impl.Pattern
	for _, s := range append(spoilPatterns(), spoilTerms()...) {
		r := richRule()
		s.do(&r)
		list = append(list, r.Pats[s.item-1])
	}
	return list
}

func TestAlphaOfWrongPatterns(t *testing.T) {
	for _, p := range wrongPatterns() {
		if got := impl.AlphaOf(p); !same(got, impl.Alpha{}) {
			t.Errorf("%+v: %+v", p, got)
		}
	}
	for _, p := range richRule().Pats {
		if got := impl.AlphaOf(p); got.Cls != p.Cls || got.Arity != len(p.Terms) {
			t.Errorf("%+v is right, but: %+v", p, got)
		}
	}
}

// modelAlpha says the document's words over again, with a map of what is bound.
func modelAlpha(p impl.Pattern) impl.Alpha {
	a := impl.Alpha{Cls: p.Cls, Arity: len(p.Terms)}
	first := map[string]int{}
	for i, term := range p.Terms {
		j, bound := first[term.Var]
		switch {
		case term.Kind == impl.TermConst:
			a.Tests = append(a.Tests, impl.AlphaTest{Slot: i, Op: impl.OpEq, Other: -1, Val: term.Val})
		case term.Kind == impl.TermVar && bound:
			a.Tests = append(a.Tests, impl.AlphaTest{Slot: i, Op: impl.OpEq, Other: j})
		case term.Kind == impl.TermVar:
			first[term.Var] = i
		case term.Kind == impl.TermTest && term.Var == "":
			a.Tests = append(a.Tests, impl.AlphaTest{Slot: i, Op: term.Op, Other: -1, Val: term.Val})
		case term.Kind == impl.TermTest && bound:
			a.Tests = append(a.Tests, impl.AlphaTest{Slot: i, Op: term.Op, Other: j})
		}
	}
	return a
}

func TestAlphasAgainstTheModel(t *testing.T) {
	d := dice(5)
	for range 5000 {
		p := patternOf(t, d.smallPattern(1+d.roll(impl.MaxSlots)))
		if got, want := impl.AlphaOf(p), modelAlpha(p); !same(got, want) {
			t.Fatalf("%+v: answered %+v, asked for %+v", p, got, want)
		}
	}
}
