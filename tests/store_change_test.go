package tests

import (
	"testing"

	"loop.example/s01311/impl"
)

// threeFacts is a full store with Single set.
func threeFacts() impl.Store {
	return impl.Store{Next: 8, Cap: 3, Single: true, Facts: []impl.Fact{
		newFact(2, "a", number(1)), newFact(4, "a", number(2)), newFact(7, "b", symbol("x"), number(0)),
	}}
}

// shape gives a store other bounds than threeFacts has.
func shape(next, room int, single bool) impl.Store {
	s := threeFacts()
	s.Next, s.Cap, s.Single = next, room, single
	return s
}

func behind(s impl.Store, next int, facts ...impl.Fact) impl.Store {
	s.Facts, s.Next = facts, next
	return s
}

func wantChange(t *testing.T, name string, got, want impl.Change) {
	t.Helper()
	if !equalChanges(got, want) {
		t.Errorf("%s: answered %+v, asked for %+v", name, got, want)
	}
}

func TestAssertAddsBehindTheOthers(t *testing.T) {
	s := shape(8, 4, true)
	f := s.Facts
	wantChange(t, "other slots", impl.Assert(s, "a", values(number(3), symbol("y"))),
		impl.Change{Store: behind(s, 9, f[0], f[1], f[2], newFact(8, "a", number(3), symbol("y"))), Tag: 8})
	wantChange(t, "no slots", impl.Assert(s, "a", nil),
		impl.Change{Store: behind(s, 9, f[0], f[1], f[2], newFact(8, "a")), Tag: 8})
	wantChange(t, "other class", impl.Assert(s, "c", values(number(1))),
		impl.Change{Store: behind(s, 9, f[0], f[1], f[2], newFact(8, "c", number(1))), Tag: 8})
	loose := shape(30, 4, false)
	wantChange(t, "alike without Single", impl.Assert(loose, "a", values(number(1))),
		impl.Change{Store: behind(loose, 31, f[0], f[1], f[2], newFact(30, "a", number(1))), Tag: 30})
	last := shape(impl.MaxTag, 4, true)
	wantChange(t, "the last tag", impl.Assert(last, "c", nil),
		impl.Change{Store: behind(last, impl.MaxTag+1, f[0], f[1], f[2], newFact(impl.MaxTag, "c")), Tag: impl.MaxTag})
}

func TestAssertCodesInOrder(t *testing.T) {
	twin, other := values(number(2)), values(number(9))
	over := impl.MaxTag + 1
	rows := []struct {
		name  string
		store impl.Store
		slots []impl.Value
		code  int
		tag   int
	}{
		{"dup", shape(8, 4, true), twin, impl.CodeDup, 4},
		{"dup ahead of full", shape(8, 3, true), twin, impl.CodeDup, 4},
		{"dup ahead of tags", shape(over, 4, true), twin, impl.CodeDup, 4},
		{"dup ahead of both", shape(over, 3, true), twin, impl.CodeDup, 4},
		{"full", shape(8, 3, true), other, impl.CodeFull, 0},
		{"full without Single", shape(8, 3, false), twin, impl.CodeFull, 0},
		{"full ahead of tags", shape(over, 3, true), other, impl.CodeFull, 0},
		{"tags", shape(over, 4, true), other, impl.CodeTags, 0},
		{"tags without Single", shape(over, 4, false), twin, impl.CodeTags, 0},
		{"no room at all", impl.Store{Next: 1}, other, impl.CodeFull, 0},
		{"greatest store", impl.Store{Next: 41, Cap: impl.MaxFacts, Facts: manyFacts(impl.MaxFacts)}, twin, impl.CodeFull, 0},
		{"greatest single store", impl.Store{Next: 41, Cap: impl.MaxFacts, Single: true, Facts: manyFacts(impl.MaxFacts)}, values(number(39)), impl.CodeDup, 40},
	}
	for _, row := range rows {
		wantChange(t, row.name, impl.Assert(row.store, "a", row.slots), impl.Change{Store: copyOf(row.store), Code: row.code, Tag: row.tag})
	}
}

func TestRetractLeavesTheOthers(t *testing.T) {
	s := threeFacts()
	f := s.Facts
	wantChange(t, "first", impl.Retract(s, 2), impl.Change{Store: behind(s, 8, f[1], f[2]), Tag: 2})
	wantChange(t, "middle", impl.Retract(s, 4), impl.Change{Store: behind(s, 8, f[0], f[2]), Tag: 4})
	wantChange(t, "last", impl.Retract(s, 7), impl.Change{Store: behind(s, 8, f[0], f[1]), Tag: 7})
	over := shape(impl.MaxTag+1, 3, true)
	wantChange(t, "tags used up", impl.Retract(over, 7), impl.Change{Store: behind(over, impl.MaxTag+1, f[0], f[1]), Tag: 7})
	only := impl.Store{Next: impl.MaxTag + 1, Cap: 1, Facts: []impl.Fact{newFact(impl.MaxTag, "a")}}
	wantChange(t, "only one", impl.Retract(only, impl.MaxTag), impl.Change{Store: behind(only, impl.MaxTag+1), Tag: impl.MaxTag})
}

// strayTags are tags that no fact of threeFacts has.
func strayTags() []int {
	return []int{0, 1, 3, 5, 6, 8, 9, -1, -2, impl.MaxTag, impl.MaxTag + 1, -9223372036854775808, 9223372036854775807}
}

func TestTagsThatNoFactHas(t *testing.T) {
	for _, s := range []impl.Store{threeFacts(), shape(impl.MaxTag+1, 3, true), shape(8, 3, false), {Next: 5, Cap: 3}} {
		for _, tag := range strayTags() {
			want := impl.Change{Store: copyOf(s), Code: impl.CodeNone}
			wantChange(t, "retract", impl.Retract(s, tag), want)
			wantChange(t, "modify", impl.Modify(s, tag, values(number(9))), want)
			wantChange(t, "modify to one alike", impl.Modify(s, tag, values(number(1))), want)
		}
	}
}

func TestModifyMovesTheFactBehindTheOthers(t *testing.T) {
	s := threeFacts()
	f := s.Facts
	wantChange(t, "first, in a full store", impl.Modify(s, 2, values(number(5), symbol("q"))),
		impl.Change{Store: behind(s, 9, f[1], f[2], newFact(8, "a", number(5), symbol("q"))), Tag: 8})
	wantChange(t, "to itself", impl.Modify(s, 4, values(number(2))),
		impl.Change{Store: behind(s, 9, f[0], f[2], newFact(8, "a", number(2))), Tag: 8})
	wantChange(t, "last, to no slots", impl.Modify(s, 7, nil),
		impl.Change{Store: behind(s, 9, f[0], f[1], newFact(8, "b")), Tag: 8})
	wantChange(t, "the slots of another class", impl.Modify(s, 7, values(number(1))),
		impl.Change{Store: behind(s, 9, f[0], f[1], newFact(8, "b", number(1))), Tag: 8})
	loose := shape(8, 3, false)
	wantChange(t, "alike without Single", impl.Modify(loose, 2, values(number(2))),
		impl.Change{Store: behind(loose, 9, f[1], f[2], newFact(8, "a", number(2))), Tag: 8})
	last := shape(impl.MaxTag, 3, true)
	wantChange(t, "the last tag", impl.Modify(last, 2, nil),
		impl.Change{Store: behind(last, impl.MaxTag+1, f[1], f[2], newFact(impl.MaxTag, "a")), Tag: impl.MaxTag})
}

func TestModifyCodesInOrder(t *testing.T) {
	over := impl.MaxTag + 1
	rows := []struct {
		name  string
		store impl.Store
		tag   int
		num   int64
		code  int
		told  int
	}{
		{"dup of a later one", threeFacts(), 2, 2, impl.CodeDup, 4},
		{"dup of an earlier one", threeFacts(), 4, 1, impl.CodeDup, 2},
		{"dup ahead of tags", shape(over, 3, true), 2, 2, impl.CodeDup, 4},
		{"tags", shape(over, 3, true), 2, 9, impl.CodeTags, 0},
		{"tags, to itself", shape(over, 3, true), 2, 1, impl.CodeTags, 0},
		{"tags without Single", shape(over, 3, false), 2, 2, impl.CodeTags, 0},
		{"none ahead of dup and tags", shape(over, 3, true), 3, 2, impl.CodeNone, 0},
	}
	for _, row := range rows {
		wantChange(t, row.name, impl.Modify(row.store, row.tag, values(number(row.num))), impl.Change{Store: copyOf(row.store), Code: row.code, Tag: row.told})
	}
}

func wantBad(t *testing.T, name string, got impl.Change) {
	t.Helper()
	wantChange(t, name, got, impl.Change{Code: impl.CodeBad})
}

func TestChangesOfStoresThatAreNotValid(t *testing.T) {
	for name, s := range invalidStores() {
		wantBad(t, name+", assert", impl.Assert(s, "a", nil))
		wantBad(t, name+", assert", impl.Assert(s, "new", values(number(77))))
		wantBad(t, name+", modify", impl.Modify(s, 3, nil))
		for _, tag := range []int{0, 1, 3, 99} {
			wantBad(t, name+", retract", impl.Retract(s, tag))
			wantBad(t, name+", modify", impl.Modify(s, tag, values(number(77))))
		}
	}
}

func TestClassesOfAssert(t *testing.T) {
	s := shape(8, 4, true)
	for _, cls := range goodSymbols() {
		if c := impl.Assert(s, cls, nil); c.Code != impl.CodeOK || c.Tag != 8 {
			t.Errorf("class %q: %+v", cls, c)
		}
	}
	for _, cls := range badSymbols() {
		wantBad(t, cls, impl.Assert(s, cls, nil))
		wantBad(t, cls+", in a full store", impl.Assert(shape(impl.MaxTag+1, 3, true), cls, nil))
	}
}

func TestSlotsOfAssertAndModify(t *testing.T) {
	s := shape(8, 4, true)
	for _, v := range goodValues() {
		if c := impl.Assert(s, "c", values(v)); c.Code != impl.CodeOK || c.Store.Facts[3].Slots[0] != v {
			t.Errorf("assert of %+v: %+v", v, c)
		}
		if c := impl.Modify(s, 7, values(v, v)); c.Code != impl.CodeOK || c.Store.Facts[2].Slots[1] != v {
			t.Errorf("modify to %+v: %+v", v, c)
		}
	}
	for _, v := range badValues() {
		wantBad(t, "assert", impl.Assert(s, "a", values(v)))
		wantBad(t, "assert, last of all", impl.Assert(s, "a", append(manySlots(impl.MaxSlots-1), v)))
		wantBad(t, "modify", impl.Modify(s, 2, values(number(1), v)))
		wantBad(t, "modify, ahead of a tag that is not there", impl.Modify(s, 3, values(v)))
	}
}

func TestHowManySlots(t *testing.T) {
	s := shape(8, 4, true)
	for n := 0; n <= impl.MaxSlots; n++ {
		if c := impl.Assert(s, "c", manySlots(n)); c.Code != impl.CodeOK || len(c.Store.Facts[3].Slots) != n {
			t.Errorf("assert of %d slots: %+v", n, c)
		}
		if c := impl.Modify(s, 2, manySlots(n)); c.Code != impl.CodeOK || len(c.Store.Facts[2].Slots) != n {
			t.Errorf("modify to %d slots: %+v", n, c)
		}
	}
	for _, n := range []int{impl.MaxSlots + 1, impl.MaxSlots + 2, 5000} {
		wantBad(t, "assert", impl.Assert(s, "c", manySlots(n)))
		wantBad(t, "modify", impl.Modify(s, 2, manySlots(n)))
		wantBad(t, "modify, ahead of a tag that is not there", impl.Modify(s, 3, manySlots(n)))
	}
}
