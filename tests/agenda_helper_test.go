package tests

import (
	"strconv"
	"strings"
	"testing"

	"loop.example/s01311/impl"
)

// instsOf reads what showInsts writes: "0:1,2 1:".
func instsOf(t *testing.T, text string) []impl.Inst {
	t.Helper()
	var list []impl.Inst
	for _, word := range strings.Fields(text) {
		rule, tags, found := strings.Cut(word, ":")
		n, err := strconv.Atoi(rule)
		if err != nil || !found {
			t.Fatalf("%q is no instantiation", word)
		}
		x := impl.Inst{Rule: n}
		for _, tag := range strings.FieldsFunc(tags, func(r rune) bool { return r == ',' }) {
			n, err := strconv.Atoi(tag)
			if err != nil {
				t.Fatalf("%q is no instantiation", word)
			}
			x.Tags = append(x.Tags, n)
		}
		list = append(list, x)
	}
	return list
}

func instOf(t *testing.T, text string) impl.Inst {
	t.Helper()
	list := instsOf(t, text)
	if len(list) != 1 {
		t.Fatalf("%q is not one instantiation", text)
	}
	return list[0]
}

// The model of the order says the document's words over again, one after the
// other, with loops.

func modelRecency(tags []int) []int {
	var out []int
	for _, tag := range tags {
		at := 0
		for at < len(out) && out[at] > tag {
			at++
		}
		out = append(out[:at], append([]int{tag}, out[at:]...)...)
	}
	return out
}

// modelTagLists answers -1, 0 or 1: a list is less, equal or greater.
func modelTagLists(a, b []int) int {
	for i := 0; i < len(a) && i < len(b); i++ {
		if a[i] < b[i] {
			return -1
		}
		if a[i] > b[i] {
			return 1
		}
	}
	switch {
	case len(a) < len(b):
		return -1
	case len(a) > len(b):
		return 1
	}
	return 0
}

func modelAhead(rules []impl.Rule, a, b impl.Inst) bool {
	if x, y := rules[a.Rule].Salience, rules[b.Rule].Salience; x != y {
		return x > y
	}
	if c := modelTagLists(modelRecency(a.Tags), modelRecency(b.Tags)); c != 0 {
		return c > 0
	}
	if a.Rule != b.Rule {
		return a.Rule < b.Rule
	}
	return modelTagLists(a.Tags, b.Tags) < 0
}

// modelAgenda takes what nothing comes ahead of, over and over.
func modelAgenda(rules []impl.Rule, insts []impl.Inst) []impl.Inst {
	left := append([]impl.Inst(nil), insts...)
	var out []impl.Inst
	for len(left) > 0 {
		best := 0
		for i := range left {
			if modelAhead(rules, left[i], left[best]) {
				best = i
			}
		}
		out = append(out, left[best])
		left = append(left[:best], left[best+1:]...)
	}
	return out
}

// anyInst has tags that are often equal, and any number of them that there may
// be, whatever the rule.
func (d *dice) anyInst(rules int) impl.Inst {
	x := impl.Inst{Rule: d.roll(rules)}
	for range d.roll(impl.MaxPos + 1) {
		x.Tags = append(x.Tags, d.roll(4))
	}
	return x
}

func (d *dice) anyInsts(rules, n int) []impl.Inst {
	var list []impl.Inst
	for range n {
		list = append(list, d.anyInst(rules))
	}
	return list
}

// ranked are rules with these saliences.
func ranked(t *testing.T, saliences ...int64) []impl.Rule {
	t.Helper()
	text := ""
	for i, s := range saliences {
		text += "(rule r" + strconv.Itoa(i) + " " + strconv.FormatInt(s, 10) + " (a _) =>)"
	}
	return checkedRules(t, text)
}
