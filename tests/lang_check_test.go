package tests

import (
	"testing"

	"loop.example/s01311/impl"
)

func wantCheck(t *testing.T, name string, rules []impl.Rule, want impl.Check) {
	t.Helper()
	if got := impl.CheckRules(rules); got != want {
		t.Errorf("%s: answered %+v, asked for %+v", name, got, want)
	}
}

// richRule is checked and has every kind of term, expr and action.
func richRule() impl.Rule {
	return impl.Rule{
		Name: "rich", Salience: -1,
		Pats: []impl.Pattern{
			positive("a", termAny(), termConst(number(0)), termConst(symbol("red")), termVar("x"), testVal(impl.OpLt, number(3)), testVar(impl.OpGe, "x")),
			negated("b", termVar("x"), termVar("y"), testVar(impl.OpNe, "y")),
			positive("c", termVar("z"), testVal(impl.OpEq, number(0))),
		},
		Exprs: []impl.Expr{
			exprConst(number(1)), exprVar("x"), exprOp('+', 0, 1), exprConst(symbol("red")), exprOp('/', 2, 3),
			exprVar("z"), exprConst(number(2)), exprVar("x"), exprOp('%', 6, 7), exprOp('*', 5, 8), exprConst(number(0)),
		},
		Acts: []impl.Action{actAdd("d", 4, 9), actHalt(), actDrop(2), actMod(1, 10), actAdd("e")},
	}
}

// A spoil is a change of richRule that makes it a fault.
type spoil struct {
	name string
	do   func(r *impl.Rule)
	code int
	item int
}

func spoilWhole() []spoil {
	shape := func(name string, do func(r *impl.Rule)) spoil { return spoil{name, do, impl.CheckShape, 0} }
	list := []spoil{
		shape("patterns", func(r *impl.Rule) { r.Pats = append(r.Pats, negated("a"), negated("a"), negated("a"), negated("a")) }),
		shape("actions", func(r *impl.Rule) { r.Acts = append(r.Acts, actHalt(), actHalt(), actHalt(), actHalt()) }),
		shape("exprs", func(r *impl.Rule) { r.Exprs = append(r.Exprs, make([]impl.Expr, 50)...) }),
		shape("many patterns", func(r *impl.Rule) { r.Pats = make([]impl.Pattern, 100000) }),
	}
	for _, s := range badSymbols() {
		list = append(list, shape("name "+s, func(r *impl.Rule) { r.Name = s }))
	}
	return list
}

func spoilTerms() []spoil {
	bad := []impl.Term{
		{Kind: 4}, {Kind: -1}, {Op: 1}, {Var: "x"}, {Val: number(1)}, {Val: symbol("x")},
		{Kind: impl.TermConst, Op: 1, Val: number(1)}, {Kind: impl.TermConst, Var: "x", Val: number(1)},
		{Kind: impl.TermVar}, {Kind: impl.TermVar, Var: "x", Op: 1}, {Kind: impl.TermVar, Var: "x", Val: number(1)}, {Kind: impl.TermVar, Val: symbol("x")},
		{Kind: impl.TermTest}, {Kind: impl.TermTest, Op: 7}, {Kind: impl.TermTest, Op: -1}, {Kind: impl.TermTest, Val: number(1)},
		{Kind: impl.TermTest, Op: 1, Var: "x", Val: number(1)}, {Kind: impl.TermTest, Op: 1, Var: "x", Val: symbol("x")},
		{Kind: impl.TermTest, Op: 1, Var: "x", Val: impl.Value{Kind: impl.ValSym}},
	}
	for _, v := range badValues() {
		bad = append(bad, termConst(v), testVal(impl.OpEq, v))
	}
	for _, s := range badSymbols() {
		bad = append(bad, termVar(s))
		if s != "" {
			bad = append(bad, testVar(impl.OpEq, s))
		}
	}
	var list []spoil
	for _, term := range bad {
		list = append(list,
			spoil{"first pattern's term", func(r *impl.Rule) { r.Pats[0].Terms[2] = term }, impl.CheckShape, 1},
			spoil{"last pattern's last term", func(r *impl.Rule) { r.Pats[2].Terms[1] = term }, impl.CheckShape, 3})
	}
	return list
}

func spoilPatterns() []spoil {
	list := []spoil{
		{"seven terms", func(r *impl.Rule) { r.Pats[0].Terms = append(r.Pats[0].Terms, termAny()) }, impl.CheckShape, 1},
		{"many terms", func(r *impl.Rule) { r.Pats[1].Terms = make([]impl.Term, 100000) }, impl.CheckShape, 2},
		{"class not", func(r *impl.Rule) { r.Pats[2].Cls = "not" }, impl.CheckShape, 3},
		{"negated class not", func(r *impl.Rule) { r.Pats[1].Cls = "not" }, impl.CheckShape, 2},
	}
	for _, s := range badSymbols() {
		list = append(list, spoil{"class " + s, func(r *impl.Rule) { r.Pats[1].Cls = s }, impl.CheckShape, 2})
	}
	return list
}

func spoilExprs() []spoil {
	var list []spoil
	at := func(n int, bad ...impl.Expr) {
		for _, e := range bad {
			list = append(list, spoil{"expr", func(r *impl.Rule) { r.Exprs[n] = e }, impl.CheckShape, n + 1})
		}
	}
	at(0, impl.Expr{Kind: 3}, impl.Expr{Kind: -1}, impl.Expr{Op: '+'}, impl.Expr{Op: 1}, impl.Expr{Var: "x"}, impl.Expr{A: 1}, impl.Expr{B: -1},
		exprOp('+', 0, 0), exprOp('+', -1, -1), exprOp('+', 0, -1), exprOp('+', -2, -1))
	at(1, exprVar(""), impl.Expr{Kind: impl.ExprVar, Var: "x", Op: '+'}, impl.Expr{Kind: impl.ExprVar, Var: "x", Val: number(1)},
		impl.Expr{Kind: impl.ExprVar, Var: "x", A: 1}, impl.Expr{Kind: impl.ExprVar, Var: "x", B: 1}, impl.Expr{Kind: impl.ExprVar, Val: symbol("x")},
		exprOp('+', -1, 0), exprOp('+', 0, 0), exprOp('+', 0, 1))
	at(2, exprOp(0, 0, 1), exprOp('<', 0, 1), exprOp('=', 0, 1), exprOp('a', 0, 1), exprOp(255, 0, 1), exprOp('+', 1, 0), exprOp('+', 1, 1),
		exprOp('+', 0, 0), exprOp('+', 0, 2), exprOp('+', -1, 1), exprOp('+', 0, 1000000000), exprOp('+', -9223372036854775808, 1), exprOp('+', 0, -9223372036854775808),
		impl.Expr{Kind: impl.ExprOp, Op: '+', B: 1, Var: "x"}, impl.Expr{Kind: impl.ExprOp, Op: '+', B: 1, Val: number(1)}, impl.Expr{Kind: impl.ExprOp, Op: '+', B: 1, Val: symbol("x")})
	at(4, exprOp('+', 1, 3), exprOp('+', 0, 3), exprOp('+', 2, 2), exprOp('+', 3, 3), exprOp('+', 2, 4))
	at(9, exprOp('+', 7, 8), exprOp('+', 6, 8), exprOp('+', 4, 8), exprOp('+', 8, 5), exprOp('+', 5, 7))
	for _, v := range badValues() {
		at(3, exprConst(v))
		at(10, exprConst(v))
	}
	for _, s := range badSymbols() {
		at(5, exprVar(s))
	}
	return list
}

func spoilActions() []spoil {
	var list []spoil
	at := func(n int, bad ...impl.Action) {
		for _, a := range bad {
			list = append(list, spoil{"action", func(r *impl.Rule) { r.Acts[n] = a }, impl.CheckShape, n + 1})
		}
	}
	at(0, impl.Action{}, impl.Action{Kind: 5, Cls: "d", Args: []int{4, 9}}, impl.Action{Kind: -1}, impl.Action{Kind: impl.ActAdd, Args: []int{4, 9}},
		actAdd("not", 4, 9), impl.Action{Kind: impl.ActAdd, Cls: "d", K: 1, Args: []int{4, 9}}, impl.Action{Kind: impl.ActAdd, Cls: "d", K: -1},
		actAdd("d", 3, 9), actAdd("d", 4, 8), actAdd("d", 4, 4), actAdd("d", 9, 4), actAdd("d", 9), actAdd("d", 5, 9), actAdd("d", -1), actAdd("d", 11), actAdd("d", 4, 9, 11),
		actAdd("d", 4, 9, -1), actAdd("d", 9223372036854775807), actAdd("d", -9223372036854775808), actAdd("d", 0, 1, 3, 4), actAdd("d", 4, 5, 6, 7, 8),
		actAdd("d", 1), actAdd("d", 0, 1, 1))
	at(1, impl.Action{Kind: impl.ActHalt, K: 1}, impl.Action{Kind: impl.ActHalt, Cls: "a"}, impl.Action{Kind: impl.ActHalt, Args: []int{10}}, impl.Action{})
	at(2, impl.Action{Kind: impl.ActDrop, K: 2, Cls: "a"}, impl.Action{Kind: impl.ActDrop, K: 2, Args: []int{10}}, actDrop(1000001), actDrop(-1000001),
		actDrop(9223372036854775807), actDrop(-9223372036854775808))
	at(3, impl.Action{Kind: impl.ActMod, K: 1, Cls: "a", Args: []int{10}}, actMod(1000001, 10), actMod(-1000001, 10), actMod(1, 9), actMod(1, 11), actMod(1, 0), actMod(1, 10, 10))
	at(4, actAdd("e", 10), actAdd("e", 11), actAdd("e", 0))
	for _, s := range badSymbols() {
		at(4, actAdd(s))
	}
	list = append(list,
		spoil{"seven arguments", func(r *impl.Rule) {
			r.Exprs, r.Acts = make([]impl.Expr, 7), []impl.Action{actHalt(), actAdd("e", 0, 1, 2, 3, 4, 5, 6)}
		}, impl.CheckShape, 2},
		spoil{"many arguments", func(r *impl.Rule) { r.Acts[4].Args = make([]int, 100000) }, impl.CheckShape, 5},
		spoil{"an expr left", func(r *impl.Rule) { r.Exprs = append(r.Exprs, exprConst(number(1))) }, impl.CheckShape, 6},
		spoil{"an argument less", func(r *impl.Rule) { r.Acts[3].Args = nil }, impl.CheckShape, 6},
		spoil{"exprs and no action", func(r *impl.Rule) { r.Acts = nil }, impl.CheckShape, 1})
	return list
}

func TestShapesOneByOne(t *testing.T) {
	wantCheck(t, "rich", []impl.Rule{richRule()}, impl.Check{})
	other := impl.Rule{Name: "other", Pats: []impl.Pattern{positive("a")}}
	for _, group := range [][]spoil{spoilWhole(), spoilPatterns(), spoilTerms(), spoilExprs(), spoilActions()} {
		for _, s := range group {
			r := richRule()
			s.do(&r)
			wantCheck(t, s.name, []impl.Rule{r}, impl.Check{Code: s.code, Item: s.item})
			wantCheck(t, s.name, []impl.Rule{other, r, {}}, impl.Check{Code: s.code, Rule: 1, Item: s.item})
			if out := impl.PrintRules([]impl.Rule{other, r}); len(out) != 0 {
				t.Errorf("%s: printed %q", s.name, out)
			}
		}
	}
}

// The good neighbours of the spoils above.
func TestShapesThatAreRight(t *testing.T) {
	edges := []func(r *impl.Rule){
		func(r *impl.Rule) { r.Name = "not" },
		func(r *impl.Rule) { r.Name = longSymbol(impl.MaxSym) },
		func(r *impl.Rule) { r.Pats[0].Cls = longSymbol(impl.MaxSym) },
		func(r *impl.Rule) { r.Pats = append(r.Pats, negated("a"), negated("a"), negated("a")) },
		func(r *impl.Rule) { r.Acts = append(r.Acts, actHalt(), actAdd("a"), actDrop(1)) },
		func(r *impl.Rule) { r.Pats[2].Terms[1] = testVal(impl.OpGe, symbol("x")) },
		func(r *impl.Rule) { r.Pats[2].Terms = make([]impl.Term, impl.MaxSlots); r.Exprs[5] = exprVar("x") },
		func(r *impl.Rule) { r.Acts = append(r.Acts[:4:4], actAdd("e"), actMod(2)) },
		func(r *impl.Rule) { r.Exprs, r.Acts = nil, nil },
		func(r *impl.Rule) {
			r.Exprs, r.Acts = []impl.Expr{}, []impl.Action{{Kind: impl.ActHalt, Args: []int{}}}
		},
		func(r *impl.Rule) {
			r.Exprs, r.Acts = make([]impl.Expr, 6), []impl.Action{actAdd("e", 0, 1, 2, 3, 4, 5)}
		},
	}
	for i, edge := range edges {
		r := richRule()
		edge(&r)
		if got := impl.CheckRules([]impl.Rule{r}); got != (impl.Check{}) {
			t.Errorf("edge %d: %+v", i, got)
		}
	}
	for _, k := range []int{-1000000, 1000000} {
		r := richRule()
		r.Acts[2].K = k
		wantCheck(t, "K at its end", []impl.Rule{r}, impl.Check{Code: impl.CheckRef, Item: 6})
	}
}

// chain is a rule with one argument, in which each operation has the one before
// as a part.
func chain(depth int, second bool) impl.Rule {
	r := impl.Rule{Name: "a", Pats: []impl.Pattern{positive("b")}}
	if second {
		for range depth {
			r.Exprs = append(r.Exprs, impl.Expr{})
		}
	}
	r.Exprs = append(r.Exprs, impl.Expr{})
	for i := range depth {
		n := len(r.Exprs)
		if second {
			r.Exprs = append(r.Exprs, exprOp('-', depth-1-i, n-1))
			continue
		}
		r.Exprs = append(r.Exprs, impl.Expr{}, exprOp('-', n-1, n))
	}
	r.Acts = []impl.Action{actAdd("c", len(r.Exprs)-1)}
	return r
}

func TestDepthOfExprs(t *testing.T) {
	for _, second := range []bool{false, true} {
		for depth := range impl.MaxDepth + 1 {
			wantCheck(t, "deep", []impl.Rule{chain(depth, second)}, impl.Check{})
		}
		for depth := impl.MaxDepth + 1; depth < 29; depth++ {
			item := 2*(impl.MaxDepth+1) + 1
			if second {
				item = depth + 1 + impl.MaxDepth + 1
			}
			wantCheck(t, "too deep", []impl.Rule{chain(depth, second)}, impl.Check{Code: impl.CheckShape, Item: item})
		}
	}
}

func TestMoreThanMaxRules(t *testing.T) {
	rules := rulesOf(t, times(impl.MaxRules, "(rule r# 0 (b) =>)"))
	wantCheck(t, "MaxRules", rules, impl.Check{})
	wantCheck(t, "no rules", nil, impl.Check{})
	wantCheck(t, "an empty list", []impl.Rule{}, impl.Check{})
	more := append(rules[:impl.MaxRules:impl.MaxRules], impl.Rule{Name: "more", Pats: []impl.Pattern{positive("b")}})
	wantCheck(t, "one more", more, impl.Check{Code: impl.CheckShape})
	more[3] = impl.Rule{}
	wantCheck(t, "one more and a wrong one", more, impl.Check{Code: impl.CheckShape})
	if out := impl.PrintRules(more); len(out) != 0 {
		t.Errorf("printed %q", out)
	}
	wantCheck(t, "the zero rule", make([]impl.Rule, 1), impl.Check{Code: impl.CheckShape})
	wantCheck(t, "a wrong last one", append(rules[:15:15], impl.Rule{}), impl.Check{Code: impl.CheckShape, Rule: 15})
}
