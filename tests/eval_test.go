package tests

import (
	"math/big"
	"testing"

	"loop.example/s01311/impl"
)

// evalOf is the operation on two constants.
func evalOf(op byte, a, b impl.Value) impl.Eval {
	return impl.EvalExpr([]impl.Expr{exprConst(a), exprConst(b), exprOp(op, 0, 1)}, nil, 2)
}

func told(n int64) impl.Eval    { return impl.Eval{Val: number(n)} }
func failed(code int) impl.Eval { return impl.Eval{Code: code} }

func TestEvalNumbers(t *testing.T) {
	const least, most = leastNumber, mostNumber
	over, zero := failed(impl.CodeOver), failed(impl.CodeZero)
	for _, row := range []struct {
		a    int64
		op   byte
		b    int64
		want impl.Eval
	}{
		{2, '+', 3, told(5)}, {-2, '+', 2, told(0)}, {0, '+', 0, told(0)},
		{most, '+', 0, told(most)}, {0, '+', least, told(least)}, {least, '+', 0, told(least)},
		{most - 1, '+', 1, told(most)}, {most, '+', 1, over}, {1, '+', most, over}, {most, '+', most, over},
		{least + 1, '+', -1, told(least)}, {least, '+', -1, over}, {-1, '+', least, over}, {least, '+', least, over},
		{most, '+', least, told(-1)}, {least, '+', most, told(-1)}, {most, '+', -most, told(0)},
		{2, '-', 3, told(-1)}, {0, '-', 0, told(0)}, {most, '-', 0, told(most)}, {least, '-', 0, told(least)},
		{least + 1, '-', 1, told(least)}, {least, '-', 1, over}, {-2, '-', most, over}, {-1, '-', most, told(least)},
		{most - 1, '-', -1, told(most)}, {most, '-', -1, over}, {0, '-', least, over}, {-1, '-', least, told(most)}, {1, '-', least, over},
		{0, '-', most, told(-most)}, {least, '-', least, told(0)}, {most, '-', most, told(0)}, {least, '-', most, over}, {most, '-', least, over},
		{6, '*', 7, told(42)}, {-6, '*', 7, told(-42)}, {-6, '*', -7, told(42)}, {0, '*', least, told(0)}, {least, '*', 0, told(0)},
		{least, '*', 1, told(least)}, {1, '*', least, told(least)}, {least, '*', -1, over}, {-1, '*', least, over}, {most, '*', -1, told(-most)}, {-1, '*', most, told(-most)},
		{most, '*', 2, over}, {2, '*', most, over}, {least, '*', 2, over}, {least, '*', least, over}, {most, '*', most, over}, {least, '*', most, over},
		{3037000499, '*', 3037000499, told(9223372030926249001)}, {3037000500, '*', 3037000500, over}, {-3037000500, '*', 3037000500, over},
		{4294967296, '*', 2147483648, over}, {4294967296, '*', -2147483648, told(least)}, {-4294967296, '*', 2147483648, told(least)}, {-4294967296, '*', -2147483648, over},
		{4294967296, '*', 4294967296, over}, {most / 7, '*', 7, told(most)}, {most/7 + 1, '*', 7, over}, {least / 2, '*', 2, told(least)}, {least/2 - 1, '*', 2, over},
		{7, '/', 2, told(3)}, {-7, '/', 2, told(-3)}, {7, '/', -2, told(-3)}, {-7, '/', -2, told(3)}, {1, '/', 2, told(0)}, {-1, '/', 2, told(0)}, {0, '/', -5, told(0)},
		{least, '/', -1, over}, {least, '/', 1, told(least)}, {most, '/', -1, told(-most)}, {least, '/', least, told(1)}, {most, '/', least, told(0)}, {least, '/', 2, told(least / 2)}, {least + 1, '/', -1, told(most)},
		{1, '/', 0, zero}, {0, '/', 0, zero}, {least, '/', 0, zero}, {most, '/', 0, zero},
		{7, '%', 2, told(1)}, {-7, '%', 2, told(-1)}, {7, '%', -2, told(1)}, {-7, '%', -2, told(-1)}, {6, '%', 3, told(0)}, {-6, '%', 3, told(0)}, {2, '%', 7, told(2)}, {-2, '%', 7, told(-2)},
		{least, '%', -1, told(0)}, {most, '%', -1, told(0)}, {least, '%', 1, told(0)}, {least, '%', most, told(-1)}, {most, '%', least, told(most)}, {least, '%', least, told(0)}, {least, '%', 10, told(-8)},
		{1, '%', 0, zero}, {0, '%', 0, zero}, {least, '%', 0, zero}, {-1, '%', 0, zero},
	} {
		if got := evalOf(row.op, number(row.a), number(row.b)); got != row.want {
			t.Errorf("%d %c %d: %+v, asked for %+v", row.a, row.op, row.b, got, row.want)
		}
	}
}

// modelArith takes the true result from numbers without bounds.
func modelArith(op byte, a, b int64) impl.Eval {
	x, y, out := big.NewInt(a), big.NewInt(b), new(big.Int)
	if (op == '/' || op == '%') && b == 0 {
		return failed(impl.CodeZero)
	}
	switch op {
	case '+':
		out.Add(x, y)
	case '-':
		out.Sub(x, y)
	case '*':
		out.Mul(x, y)
	case '/':
		out.Quo(x, y)
	case '%':
		out.Rem(x, y)
	}
	if !out.IsInt64() {
		return failed(impl.CodeOver)
	}
	return told(out.Int64())
}

// edge is a number near 0, near a power of 2, or near a bound.
func (d *dice) edge() int64 {
	n := int64(1) << d.roll(64)
	if d.roll(3) == 0 {
		n = int64(uint64(d.roll(1<<31))<<33 ^ uint64(d.roll(1<<31))<<10 ^ uint64(d.roll(1024)))
	}
	n += int64(d.roll(5) - 2)
	if d.roll(2) == 0 {
		n = -n
	}
	return n
}

func TestEvalAgainstNumbersWithoutBounds(t *testing.T) {
	d, codes := dice(30), map[int]int{}
	for range 100000 {
		op, a, b := "+-*/%"[d.roll(5)], d.edge(), d.edge()
		got := evalOf(op, number(a), number(b))
		if want := modelArith(op, a, b); got != want {
			t.Fatalf("%d %c %d: %+v, asked for %+v", a, op, b, got, want)
		}
		codes[got.Code]++
	}
	for _, code := range []int{impl.CodeOK, impl.CodeOver, impl.CodeZero} {
		if codes[code] < 100 {
			t.Errorf("code %d was met %d times", code, codes[code])
		}
	}
}

// What is no number: a symbol, an unbound variable, a part with a code.
func TestEvalOfFaultyParts(t *testing.T) {
	exprs := []impl.Expr{
		0:  exprConst(number(5)),
		1:  exprConst(symbol("s")),
		2:  exprVar("none"),
		3:  exprConst(number(0)),
		4:  exprOp('/', 0, 3),                       // CodeZero
		5:  exprConst(number(mostNumber)),           //
		6:  exprOp('+', 5, 0),                       // CodeOver
		7:  exprOp('+', 1, 0),                       // CodeType
		8:  exprConst(impl.Value{Kind: 2}),          // neither a number nor a symbol
		9:  exprConst(impl.Value{Num: 5, Sym: "s"}), // a number, by its Kind
		10: exprConst(impl.Value{Kind: -1, Num: 5}),
	}
	const number5, sym, unbound, zero, byZero, over, wrong, odd, loose, below = 0, 1, 2, 3, 4, 6, 7, 8, 9, 10
	for _, row := range []struct{ a, b, want int }{
		{sym, number5, impl.CodeType}, {number5, sym, impl.CodeType}, {sym, sym, impl.CodeType}, {sym, zero, impl.CodeType},
		{odd, number5, impl.CodeType}, {number5, odd, impl.CodeType}, {below, number5, impl.CodeType}, {number5, below, impl.CodeType},
		{unbound, number5, impl.CodeBad}, {number5, unbound, impl.CodeBad}, {unbound, unbound, impl.CodeBad},
		{unbound, sym, impl.CodeBad}, {sym, unbound, impl.CodeBad},
		{byZero, number5, impl.CodeZero}, {number5, byZero, impl.CodeZero}, {over, zero, impl.CodeOver}, {zero, over, impl.CodeOver},
		{wrong, byZero, impl.CodeType}, {byZero, wrong, impl.CodeZero}, {over, byZero, impl.CodeOver}, {byZero, over, impl.CodeZero},
		{unbound, byZero, impl.CodeBad}, {byZero, unbound, impl.CodeZero}, {wrong, unbound, impl.CodeType}, {unbound, wrong, impl.CodeBad},
		{sym, byZero, impl.CodeZero}, {byZero, sym, impl.CodeZero}, {sym, over, impl.CodeOver}, {over, sym, impl.CodeOver},
		{number5, loose, impl.CodeOK}, {loose, number5, impl.CodeOK},
	} {
		for _, op := range []byte("+-*/%") {
			list := append(exprs[:len(exprs):len(exprs)], exprOp(op, row.a, row.b))
			got := impl.EvalExpr(list, []impl.Bind{{Var: "x", Val: number(1)}}, len(exprs))
			want := failed(row.want)
			if row.want == impl.CodeOK {
				want = modelArith(op, 5, 5)
			}
			if got != want {
				t.Errorf("%d %c %d: %+v, asked for %+v", row.a, op, row.b, got, want)
			}
		}
	}
}

func TestEvalOfConstantsAndVariables(t *testing.T) {
	for _, v := range append(goodValues(), badValues()...) {
		if got := impl.EvalExpr([]impl.Expr{exprConst(v)}, nil, 0); got != (impl.Eval{Val: v}) {
			t.Errorf("%+v: %+v", v, got)
		}
		binds := []impl.Bind{{Var: "w", Val: number(8)}, {Var: "v", Val: v}, {Var: "v", Val: number(9)}}
		if got := impl.EvalExpr([]impl.Expr{exprVar("v")}, binds, 0); got != (impl.Eval{Val: v}) {
			t.Errorf("a variable that is %+v: %+v", v, got)
		}
	}
	binds := []impl.Bind{{Var: "x", Val: number(1)}, {Var: "y", Val: symbol("k")}, {Var: "x", Val: number(2)}, {Var: "", Val: number(3)}}
	for _, row := range []struct {
		name string
		want impl.Eval
	}{
		{"x", told(1)}, {"y", impl.Eval{Val: symbol("k")}}, {"z", failed(impl.CodeBad)}, {"X", failed(impl.CodeBad)}, {"", told(3)},
	} {
		if got := impl.EvalExpr([]impl.Expr{exprVar(row.name)}, binds, 0); got != row.want {
			t.Errorf("%q: %+v, asked for %+v", row.name, got, row.want)
		}
	}
	if got := impl.EvalExpr([]impl.Expr{exprVar("")}, binds[:3], 0); got != failed(impl.CodeBad) {
		t.Errorf("no bind of the empty name: %+v", got)
	}
	if got := impl.EvalExpr([]impl.Expr{exprVar("x"), exprOp('+', 0, 0)}, binds, 1); got != told(2) {
		t.Errorf("two binds of one name: %+v", got)
	}
}

// Only expr i and those ahead of it are looked at, and all of these.
func TestEvalOfWrongExprs(t *testing.T) {
	good := []impl.Expr{exprConst(number(1)), exprConst(number(2)), exprOp('+', 0, 1), exprConst(number(4)), exprOp('*', 2, 3)}
	values := []int64{1, 2, 3, 4, 12}
	wrong := map[string]impl.Expr{
		"unknown kind":     {Kind: 3},
		"kind below 0":     {Kind: -1},
		"no operator":      {Kind: impl.ExprOp},
		"another operator": exprOp('^', 0, 0),
		"a test":           exprOp('<', 0, 0),
		"A below 0":        exprOp('+', -1, 0),
		"B below 0":        exprOp('+', 0, -1),
		"both below 0":     exprOp('+', leastNumber, leastNumber),
		"A too great":      exprOp('+', mostNumber, 0),
		"B too great":      exprOp('+', 0, mostNumber),
	}
	for what, bad := range wrong {
		for at := range good {
			list := append([]impl.Expr(nil), good...)
			list[at] = bad
			for i := range list {
				want := failed(impl.CodeBad)
				if i < at {
					want = told(values[i])
				}
				if got := impl.EvalExpr(list, nil, i); got != want {
					t.Errorf("%s at %d, expr %d: %+v, asked for %+v", what, at, i, got, want)
				}
			}
		}
	}
	for at := range good {
		for _, part := range []int{at, at + 1, len(good), len(good) + 1} {
			for _, bad := range []impl.Expr{exprOp('+', part, 0), exprOp('+', 0, part)} {
				list := append([]impl.Expr(nil), good...)
				list[at] = bad
				if got := impl.EvalExpr(list, nil, len(list)-1); got != failed(impl.CodeBad) {
					t.Errorf("a part %d at %d: %+v", part, at, got)
				}
				if got := impl.EvalExpr(list, nil, at); got != failed(impl.CodeBad) {
					t.Errorf("a part %d at %d: %+v", part, at, got)
				}
			}
		}
	}
}

// Fields that a kind does not name are not looked at, nor how exprs nest.
func TestEvalLooksAtWhatTheKindNames(t *testing.T) {
	list := []impl.Expr{
		{Kind: impl.ExprConst, Op: '^', Var: "none", Val: number(6), A: -5, B: 99},
		{Kind: impl.ExprVar, Op: '^', Var: "x", Val: symbol("Bad"), A: -5, B: 99},
		{Kind: impl.ExprOp, Op: '-', Var: "none", Val: symbol("Bad"), A: 1, B: 0},
		exprOp('*', 0, 0),
		exprOp('+', 3, 1),
	}
	for i, want := range []int64{6, 10, 4, 36, 46} {
		if got := impl.EvalExpr(list, []impl.Bind{{Var: "x", Val: number(10)}}, i); got != told(want) {
			t.Errorf("expr %d: %+v, asked for %d", i, got, want)
		}
	}
}

func TestEvalOfNumbersThatAreNone(t *testing.T) {
	list := []impl.Expr{exprConst(number(1)), exprConst(number(2))}
	for _, i := range []int{-1, -2, 2, 3, 60, leastNumber, mostNumber} {
		if got := impl.EvalExpr(list, nil, i); got != failed(impl.CodeBad) {
			t.Errorf("expr %d of 2: %+v", i, got)
		}
	}
	for _, i := range []int{-1, 0, 1} {
		if a, b := impl.EvalExpr(nil, nil, i), impl.EvalExpr([]impl.Expr{}, []impl.Bind{}, i); a != failed(impl.CodeBad) || b != a {
			t.Errorf("expr %d of none: %+v, %+v", i, a, b)
		}
	}
	for _, n := range []int{impl.MaxExprs, impl.MaxExprs + 1, 5000} {
		list := make([]impl.Expr, n)
		for i := range list {
			list[i] = exprConst(number(int64(i)))
		}
		for _, i := range []int{0, 30, impl.MaxExprs - 1} {
			want := told(int64(i))
			if n > impl.MaxExprs {
				want = failed(impl.CodeBad)
			}
			if got := impl.EvalExpr(list, nil, i); got != want {
				t.Errorf("expr %d of %d: %+v, asked for %+v", i, n, got, want)
			}
		}
	}
}

// An expr that is a part of all behind it, both times, ends all the same.
func TestEvalOfSharedParts(t *testing.T) {
	list := []impl.Expr{exprConst(number(1))}
	for i := 1; i < impl.MaxExprs; i++ {
		list = append(list, exprOp('+', i-1, i-1))
	}
	if got := impl.EvalExpr(list, nil, impl.MaxExprs-1); got != told(1<<59) {
		t.Error(got)
	}
	list[0] = exprVar("none")
	if got := impl.EvalExpr(list, nil, impl.MaxExprs-1); got != failed(impl.CodeBad) {
		t.Error(got)
	}
	list[0] = exprConst(number(16))
	if got := impl.EvalExpr(list, nil, impl.MaxExprs-1); got != failed(impl.CodeOver) {
		t.Error(got)
	}
	list[impl.MaxExprs-1] = exprConst(number(3))
	if got := impl.EvalExpr(list, nil, impl.MaxExprs-1); got != told(3) {
		t.Error("what is no part of it counts", got)
	}
}

// modelEval goes down from an expr to its parts.
func modelEval(exprs []impl.Expr, binds []impl.Bind, i int) impl.Eval {
	e := exprs[i]
	switch e.Kind {
	case impl.ExprConst:
		return impl.Eval{Val: e.Val}
	case impl.ExprVar:
		v, known := modelBinding(binds, e.Var)
		if !known {
			return failed(impl.CodeBad)
		}
		return impl.Eval{Val: v}
	}
	a := modelEval(exprs, binds, e.A)
	if a.Code != impl.CodeOK {
		return a
	}
	b := modelEval(exprs, binds, e.B)
	if b.Code != impl.CodeOK {
		return b
	}
	if a.Val.Kind != impl.ValInt || b.Val.Kind != impl.ValInt {
		return failed(impl.CodeType)
	}
	return modelArith(e.Op, a.Val.Num, b.Val.Num)
}

func (d *dice) anyExprs(n int) []impl.Expr {
	var list []impl.Expr
	for i := range n {
		switch k := d.roll(8); {
		case i > 0 && k < 5:
			list = append(list, exprOp("+-*/%"[d.roll(5)], d.roll(i), d.roll(i)))
		case k == 6:
			list = append(list, exprVar(d.pick("x", "y", "z")))
		case k == 7 && d.roll(4) == 0:
			list = append(list, exprConst(symbol("s")))
		default:
			list = append(list, exprConst(number(d.edge())))
		}
	}
	return list
}

func TestEvalAgainstTheModel(t *testing.T) {
	d, codes := dice(31), map[int]int{}
	binds := []impl.Bind{{Var: "x", Val: number(3)}, {Var: "y", Val: number(-2)}, {Var: "x", Val: symbol("k")}}
	for range 5000 {
		list := d.anyExprs(1 + d.roll(12))
		for i := range list {
			got := impl.EvalExpr(list, binds, i)
			if want := modelEval(list, binds, i); got != want {
				t.Fatalf("%+v, expr %d: %+v, asked for %+v", list, i, got, want)
			}
			codes[got.Code]++
		}
	}
	for _, code := range []int{impl.CodeOK, impl.CodeBad, impl.CodeOver, impl.CodeZero, impl.CodeType} {
		if codes[code] < 100 {
			t.Errorf("code %d was met %d times", code, codes[code])
		}
	}
}
