package tests

import (
	"slices"
	"testing"

	"loop.example/s01311/impl"
)

const (
	leastNumber = -9223372036854775808
	mostNumber  = 9223372036854775807
)

func TestRecencyRows(t *testing.T) {
	for _, row := range []struct{ tags, want []int }{
		{nil, nil},
		{[]int{}, nil},
		{[]int{5}, []int{5}},
		{[]int{1, 2, 3}, []int{3, 2, 1}},
		{[]int{3, 2, 1}, []int{3, 2, 1}},
		{[]int{2, 3, 1}, []int{3, 2, 1}},
		{[]int{4, 4}, []int{4, 4}},
		{[]int{4, 7, 4, 7, 4}, []int{7, 7, 4, 4, 4}},
		{[]int{0, -1, 1, -1}, []int{1, 0, -1, -1}},
		{[]int{leastNumber, mostNumber, 0}, []int{mostNumber, 0, leastNumber}},
	} {
		if got := impl.Recency(row.tags); !slices.Equal(got, row.want) {
			t.Errorf("%v: %v, asked for %v", row.tags, got, row.want)
		}
	}
}

func TestRecencyUpToTheBound(t *testing.T) {
	d := dice(20)
	for _, n := range []int{0, 1, 2, impl.MaxPos, impl.MaxPos + 1, 50, impl.MaxAgenda - 1, impl.MaxAgenda} {
		var tags []int
		for range n {
			tags = append(tags, d.roll(n+3)-2)
		}
		if got, want := impl.Recency(tags), modelRecency(tags); len(got) != n || !slices.Equal(got, want) {
			t.Errorf("%d tags: %v, asked for %v", n, got, want)
		}
	}
	for _, n := range []int{impl.MaxAgenda + 1, impl.MaxAgenda + 2, 5 * impl.MaxAgenda} {
		if got := impl.Recency(make([]int, n)); len(got) != 0 {
			t.Errorf("%d tags: %d", n, len(got))
		}
	}
}

// wantAhead holds Before both ways, and Agenda of the two in either order.
func wantAhead(t *testing.T, rules []impl.Rule, first, second impl.Inst) {
	t.Helper()
	if !impl.Before(rules, first, second) {
		t.Errorf("%s does not come ahead of %s", showInst(first), showInst(second))
	}
	if impl.Before(rules, second, first) {
		t.Errorf("%s comes ahead of %s", showInst(second), showInst(first))
	}
	want := []impl.Inst{first, second}
	for _, list := range [][]impl.Inst{{first, second}, {second, first}} {
		if got := impl.Agenda(rules, list); !equalInsts(got, want) {
			t.Errorf("agenda %s, asked for %s", showInsts(got), showInsts(want))
		}
	}
}

func TestBeforeRows(t *testing.T) {
	rules := ranked(t, 0, 0, 7, -7, mostNumber, leastNumber)
	for _, row := range []struct{ what, first, second string }{
		{"salience", "2:1", "0:9"},
		{"salience below 0", "0:1", "3:9"},
		{"salience below 0 of a lower rule", "2:", "3:9,9,9"},
		{"salience at the bounds of int64", "4:1", "5:9"},
		{"salience at the upper bound", "4:1", "2:9"},
		{"salience at the lower bound", "3:1", "5:9"},
		{"salience ahead of recency and rule", "2:1", "1:9,9,9"},
		{"recency", "0:5", "0:4"},
		{"recency ahead of the rule's number", "1:5", "0:4"},
		{"recency is falling: the greatest counts first", "1:1,5", "0:4,4"},
		{"recency, the second number", "1:5,3", "0:2,5"},
		{"recency, the third number", "1:5,3,2", "0:3,5,1"},
		{"recency, the beginning of the other", "1:5,4", "0:5"},
		{"recency, the beginning, tags in another order", "1:4,5", "0:5"},
		{"recency of none", "1:1", "0:"},
		{"recency of none and of a tag below 0", "1:-1", "0:"},
		{"recency greater though shorter", "1:6", "0:5,5,5"},
		{"rule", "0:5", "1:5"},
		{"rule, tags in another order", "0:5,3", "1:3,5"},
		{"rule, no tags", "0:", "1:"},
		{"tags", "0:3,5", "0:5,3"},
		{"tags, three of them", "0:3,4,5", "0:3,5,4"},
		{"tags, the second of equal ones", "0:3,3,5", "0:3,5,3"},
	} {
		t.Run(row.what, func(t *testing.T) {
			wantAhead(t, rules, instOf(t, row.first), instOf(t, row.second))
		})
	}
}

// Nothing comes ahead of itself, nor of an equal one.
func TestBeforeOfEquals(t *testing.T) {
	rules := ranked(t, 0, 3)
	for _, text := range []string{"0:", "0:1", "1:4,4", "1:3,1,2"} {
		a, b := instOf(t, text), instOf(t, text)
		if impl.Before(rules, a, a) || impl.Before(rules, a, b) || impl.Before(rules, b, a) {
			t.Errorf("%s comes ahead of itself", text)
		}
		if got := impl.Agenda(rules, []impl.Inst{a, b}); !equalInsts(got, []impl.Inst{a, a}) {
			t.Errorf("%s twice: %s", text, showInsts(got))
		}
	}
	a, b := impl.Inst{Rule: 1}, impl.Inst{Rule: 1, Tags: []int{}}
	if impl.Before(rules, a, b) || impl.Before(rules, b, a) {
		t.Error("no tags and an empty list of them differ")
	}
}

func TestAgendaRows(t *testing.T) {
	rules := ranked(t, 0, 5, 0, -1)
	for _, row := range []struct{ what, list, want string }{
		{"none", "", ""},
		{"one", "2:3,1", "2:3,1"},
		{"one without tags", "2:", "2:"},
		{"in order already", "1:1 0:9 0:8", "1:1 0:9 0:8"},
		{"the other way round", "3:9 0:8 0:9 1:1", "1:1 0:9 0:8 3:9"},
		{"the same twice", "0:1 0:2 0:1", "0:2 0:1 0:1"},
		{"the same over and over, others between", "0:1,2 0:2,1 0:1,2 2:2,1 0:2,1", "0:1,2 0:1,2 0:2,1 0:2,1 2:2,1"},
		{"all questions at once", "3:9 2:1,9 0:9,1 0:1,9 0:9 0:9,1,1 1:1 1: 0:", "1:1 1: 0:9,1,1 0:1,9 0:9,1 2:1,9 0:9 0: 3:9"},
	} {
		if got := showInsts(impl.Agenda(rules, instsOf(t, row.list))); got != row.want {
			t.Errorf("%s: %q, asked for %q", row.what, got, row.want)
		}
	}
}

func TestAgendaUpToTheBound(t *testing.T) {
	d, rules := dice(21), ranked(t, 3, 3, 1, -2, 3)
	for _, n := range []int{impl.MaxAgenda - 1, impl.MaxAgenda} {
		list := d.anyInsts(len(rules), n)
		if got, want := impl.Agenda(rules, list), modelAgenda(rules, list); len(got) != n || !equalInsts(got, want) {
			t.Errorf("%d: not the agenda that is asked for", n)
		}
	}
	for _, n := range []int{impl.MaxAgenda + 1, 3 * impl.MaxAgenda} {
		if got := impl.Agenda(rules, d.anyInsts(len(rules), n)); len(got) != 0 {
			t.Errorf("%d: %d are told", n, len(got))
		}
	}
}

func TestOrderOfWrongInstantiations(t *testing.T) {
	rules := ranked(t, 4, 0)
	good := instOf(t, "1:9,9,9")
	if !impl.Before(rules, instOf(t, "0:1,2,3"), good) || len(impl.Agenda(rules, []impl.Inst{good, good})) != 2 {
		t.Fatal("MaxPos tags are not too many")
	}
	for _, text := range []string{"2:1", "-1:1", "77:", "9223372036854775807:1", "-9223372036854775808:1", "0:1,2,3,4", "1:1,1,1,1", "0:9,9,9,9,9,9,9"} {
		bad := instOf(t, text)
		if impl.Before(rules, bad, good) || impl.Before(rules, good, bad) || impl.Before(rules, bad, bad) {
			t.Errorf("%s comes ahead or behind", text)
		}
		for at := range 3 {
			list := slices.Insert([]impl.Inst{good, good}, at, bad)
			if got := impl.Agenda(rules, list); len(got) != 0 {
				t.Errorf("%s at %d: %s", text, at, showInsts(got))
			}
		}
	}
	first := instOf(t, "0:1")
	if impl.Before(nil, first, good) || impl.Before([]impl.Rule{}, good, first) || len(impl.Agenda(nil, []impl.Inst{first})) != 0 {
		t.Error("no rules, but an order")
	}
}

func TestOrderOfUncheckedRules(t *testing.T) {
	first, second := instOf(t, "0:2"), instOf(t, "0:1")
	for what, rules := range uncheckedRules(t) {
		if impl.Before(rules, first, second) || impl.Before(rules, second, first) {
			t.Errorf("%s: one comes ahead", what)
		}
		if got := impl.Agenda(rules, []impl.Inst{first, second}); len(got) != 0 {
			t.Errorf("%s: %s", what, showInsts(got))
		}
		for how := range 4 {
			if got := impl.Modes(rules, how); len(got) != 0 {
				t.Errorf("%s: how %d: %v", what, how, got)
			}
		}
	}
}
