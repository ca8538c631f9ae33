package tests

import (
	"slices"
	"testing"

	"loop.example/s01311/impl"
)

// The model of CheckRules reads exprs from behind, as trees, where the program
// goes through them from the front.

func modelClass(s string) bool { return modelSymbol.MatchString(s) && s != "not" }

func modelValue(v impl.Value) bool {
	return v == number(v.Num) || v == symbol(v.Sym) && modelSymbol.MatchString(v.Sym)
}

func modelTerm(t impl.Term) bool {
	known := []impl.Term{termAny()}
	if modelValue(t.Val) {
		known = append(known, termConst(t.Val))
	}
	if modelSymbol.MatchString(t.Var) {
		known = append(known, termVar(t.Var))
	}
	for op := 1; op <= 6; op++ {
		if modelValue(t.Val) {
			known = append(known, testVal(op, t.Val))
		}
		if modelSymbol.MatchString(t.Var) {
			known = append(known, testVar(op, t.Var))
		}
	}
	return slices.Contains(known, t)
}

// modelFirst answers the first and the depth of expr i, or -1 if it is no tree
// of exprs that follow on each other.
func modelFirst(exprs []impl.Expr, i int) (int, int) {
	if i < 0 || i >= len(exprs) {
		return -1, 0
	}
	e := exprs[i]
	switch {
	case e == exprConst(e.Val) && modelValue(e.Val), e == exprVar(e.Var) && modelSymbol.MatchString(e.Var):
		return i, 0
	case e != exprOp(e.Op, e.A, e.B) || !slices.Contains([]byte("+-*/%"), e.Op) || e.B != i-1:
		return -1, 0
	}
	firstB, depthB := modelFirst(exprs, e.B)
	if firstB < 0 || e.A != firstB-1 {
		return -1, 0
	}
	firstA, depthA := modelFirst(exprs, e.A)
	if depth := 1 + max(depthA, depthB); depth <= impl.MaxDepth {
		return firstA, depth
	}
	return -1, 0
}

func modelAction(r impl.Rule, a impl.Action, next *int) bool {
	inK := a.K >= -1000000 && a.K <= 1000000
	switch {
	case len(a.Args) > impl.MaxSlots:
		return false
	case a.Kind == impl.ActAdd && modelClass(a.Cls) && a.K == 0:
	case a.Kind == impl.ActDrop && a.Cls == "" && inK && len(a.Args) == 0:
	case a.Kind == impl.ActMod && a.Cls == "" && inK:
	case a.Kind == impl.ActHalt && a.Cls == "" && a.K == 0 && len(a.Args) == 0:
	default:
		return false
	}
	for _, n := range a.Args {
		if first, _ := modelFirst(r.Exprs, n); first < 0 || first != *next {
			return false
		}
		*next = n + 1
	}
	return true
}

func modelShape(r impl.Rule) int {
	if !modelSymbol.MatchString(r.Name) || len(r.Pats) > impl.MaxPats || len(r.Acts) > impl.MaxActs || len(r.Exprs) > impl.MaxExprs {
		return 0
	}
	for i, p := range r.Pats {
		if !modelClass(p.Cls) || len(p.Terms) > impl.MaxSlots || slices.ContainsFunc(p.Terms, func(t impl.Term) bool { return !modelTerm(t) }) {
			return i + 1
		}
	}
	for i := range r.Exprs {
		if first, _ := modelFirst(r.Exprs, i); first < 0 {
			return i + 1
		}
	}
	next := 0
	for i, a := range r.Acts {
		if !modelAction(r, a, &next) {
			return i + 1
		}
	}
	if next != len(r.Exprs) {
		return len(r.Acts) + 1
	}
	return -1
}

// modelKnown looks for a TermVar of the name in a positive pattern ahead of
// place (p, i), or in the terms of pattern p ahead of i.
func modelKnown(r impl.Rule, name string, p, i int) bool {
	for q := range r.Pats {
		for k, t := range r.Pats[q].Terms {
			if t == termVar(name) && (q == p && k < i || q < p && !r.Pats[q].Neg) {
				return true
			}
		}
	}
	return false
}

func modelVars(r impl.Rule) int {
	for p := range r.Pats {
		for i, t := range r.Pats[p].Terms {
			if t.Kind == impl.TermTest && t.Var != "" && !modelKnown(r, t.Var, p, i) {
				return p + 1
			}
		}
	}
	for i := range r.Acts {
		for _, n := range r.Acts[i].Args {
			first, _ := modelFirst(r.Exprs, n)
			for _, e := range r.Exprs[first : n+1] {
				if e.Kind == impl.ExprVar && !modelKnown(r, e.Var, len(r.Pats), 0) {
					return len(r.Pats) + i + 1
				}
			}
		}
	}
	return -1
}

func modelRefs(r impl.Rule, positives int) int {
	for i, a := range r.Acts {
		if (a.Kind == impl.ActDrop || a.Kind == impl.ActMod) && (a.K < 1 || a.K > positives) {
			return len(r.Pats) + i + 1
		}
	}
	return -1
}

func modelCheck(rules []impl.Rule) impl.Check {
	if len(rules) > impl.MaxRules {
		return impl.Check{Code: impl.CheckShape}
	}
	for i, r := range rules {
		if item := modelShape(r); item >= 0 {
			return impl.Check{Code: impl.CheckShape, Rule: i, Item: item}
		}
		if slices.ContainsFunc(rules[:i], func(x impl.Rule) bool { return x.Name == r.Name }) {
			return impl.Check{Code: impl.CheckName, Rule: i}
		}
		positives := 0
		for _, p := range r.Pats {
			if !p.Neg {
				positives++
			}
		}
		if positives == 0 || positives > 3 {
			return impl.Check{Code: impl.CheckPos, Rule: i}
		}
		if item := modelVars(r); item >= 0 {
			return impl.Check{Code: impl.CheckVar, Rule: i, Item: item}
		}
		if item := modelRefs(r, positives); item >= 0 {
			return impl.Check{Code: impl.CheckRef, Rule: i, Item: item}
		}
	}
	return impl.Check{}
}

func (d *dice) anyValue() impl.Value {
	list := values(number(0), number(1), symbol("x"), number(0), number(1), symbol("x"), impl.Value{Kind: 1}, impl.Value{Kind: 2}, impl.Value{Sym: "x"}, impl.Value{Kind: 1, Num: 1, Sym: "x"})
	return list[d.roll(len(list))]
}

// spoilRule changes one field of a rule that was right, or lays in another
// thing.
func (d *dice) spoilRule(r *impl.Rule) {
	names := []string{"", "x", "q", "not", "Bad"}
	name, n := names[d.roll(len(names))], d.roll(9)-2
	switch d.roll(9) {
	case 0:
		r.Name = name
	case 1, 2:
		if len(r.Pats) > 0 {
			d.spoilPattern(&r.Pats[d.roll(len(r.Pats))], name, n)
		}
	case 3, 4, 5:
		if len(r.Exprs) > 0 {
			d.spoilExpr(&r.Exprs[d.roll(len(r.Exprs))], name, n)
		}
	case 6, 7:
		if len(r.Acts) > 0 {
			d.spoilAction(&r.Acts[d.roll(len(r.Acts))], name, n)
		}
	case 8:
		r.Exprs = append(r.Exprs, exprConst(d.anyValue()), exprOp('+', n, len(r.Exprs)-1))[:len(r.Exprs)+d.roll(3)]
	}
}

func (d *dice) spoilPattern(p *impl.Pattern, name string, n int) {
	kinds := []func(t *impl.Term){
		func(t *impl.Term) { t.Kind = n }, func(t *impl.Term) { t.Op = n }, func(t *impl.Term) { t.Var = name }, func(t *impl.Term) { t.Val = d.anyValue() },
	}
	switch {
	case d.roll(4) == 0:
		p.Cls = name
	case d.roll(6) == 0:
		p.Neg = !p.Neg
	case len(p.Terms) > 0:
		kinds[d.roll(len(kinds))](&p.Terms[d.roll(len(p.Terms))])
	}
}

func (d *dice) spoilExpr(e *impl.Expr, name string, n int) {
	switch d.roll(6) {
	case 0:
		e.Kind = n
	case 1:
		e.Op = "+-*<\x00"[d.roll(5)]
	case 2:
		e.Var = name
	case 3:
		e.Val = d.anyValue()
	case 4:
		e.A = n
	case 5:
		e.B = n
	}
}

func (d *dice) spoilAction(a *impl.Action, name string, n int) {
	switch d.roll(4) {
	case 0:
		a.Kind = n
	case 1:
		a.K = []int{n, 1000000, 1000001, -1000000, -1000001}[d.roll(5)]
	case 2:
		a.Cls = name
	case 3:
		if len(a.Args) > 0 && d.roll(2) == 0 {
			a.Args[d.roll(len(a.Args))] = n
			return
		}
		a.Args = append(a.Args, n)
	}
}

func TestSpoiledRulesAgainstTheModel(t *testing.T) {
	d, met := dice(5), map[int]int{}
	for range 20000 {
		rules := impl.ParseRules([]byte(d.rule() + d.rule())).Rules
		for range d.roll(4) {
			if len(rules) > 0 {
				d.spoilRule(&rules[d.roll(len(rules))])
			}
		}
		got, want := impl.CheckRules(rules), modelCheck(rules)
		if got != want {
			t.Fatalf("%+v: answered %+v, asked for %+v", rules, got, want)
		}
		met[got.Code]++
		if text := impl.PrintRules(rules); got.Code != impl.CheckOK && len(text) != 0 {
			t.Fatalf("%+v: printed %q", rules, text)
		}
		if got.Code == impl.CheckOK {
			wantBack(t, rules)
		}
	}
	for code := range impl.CheckRef + 1 {
		if met[code] < 10 {
			t.Errorf("code %d was met %d times", code, met[code])
		}
	}
}
