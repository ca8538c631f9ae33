package tests

import (
	"testing"

	"loop.example/s01311/impl"
)

// A call is one change with the arguments that it is given.
type call struct {
	name  string
	store impl.Store
	slots []impl.Value
	do    func(impl.Store, []impl.Value) impl.Change
}

func asserts(cls string) func(impl.Store, []impl.Value) impl.Change {
	return func(s impl.Store, slots []impl.Value) impl.Change { return impl.Assert(s, cls, slots) }
}

func modifies(tag int) func(impl.Store, []impl.Value) impl.Change {
	return func(s impl.Store, slots []impl.Value) impl.Change { return impl.Modify(s, tag, slots) }
}

func retracts(tag int) func(impl.Store, []impl.Value) impl.Change {
	return func(s impl.Store, slots []impl.Value) impl.Change { return impl.Retract(s, tag) }
}

// crowded is a store whose lists have memory to spare behind them and in which
// all slots lie in one piece of memory.
func crowded(next, room int, single bool) impl.Store {
	slots := []impl.Value{number(1), number(1), number(1), number(1), number(1), number(1), number(1), number(1)}
	facts := make([]impl.Fact, 3, 10)
	facts[0] = impl.Fact{Tag: 1, Cls: "a", Slots: slots[:2]}
	facts[1] = impl.Fact{Tag: 2, Cls: "b", Slots: slots[:2]}
	facts[2] = impl.Fact{Tag: 3, Cls: "c", Slots: slots[1:4]}
	return impl.Store{Facts: facts, Next: next, Cap: room, Single: single}
}

// memoryCalls has a call for each way through the three changes.
func memoryCalls() []call {
	over := impl.MaxTag + 1
	spare := func() []impl.Value { return append(make([]impl.Value, 0, 8), number(1), number(1)) }
	return []call{
		{"assert", crowded(4, 5, false), spare(), asserts("a")},
		{"assert of no slots", crowded(4, 5, true), spare()[:0], asserts("a")},
		{"assert, dup", crowded(4, 5, true), spare(), asserts("a")},
		{"assert, full", crowded(4, 3, false), spare(), asserts("a")},
		{"assert, tags", crowded(over, 5, false), spare(), asserts("a")},
		{"assert, bad", crowded(4, 2, false), spare(), asserts("a")},
		{"retract of the first", crowded(4, 5, true), spare(), retracts(1)},
		{"retract of the middle", crowded(4, 5, true), spare(), retracts(2)},
		{"retract of the last", crowded(4, 5, true), spare(), retracts(3)},
		{"retract, none", crowded(4, 5, true), spare(), retracts(4)},
		{"modify of the first", crowded(4, 5, true), spare(), modifies(1)},
		{"modify of the last", crowded(4, 5, true), spare(), modifies(3)},
		{"modify to no slots", crowded(4, 5, true), spare()[:0], modifies(2)},
		{"modify, none", crowded(4, 5, true), spare(), modifies(9)},
		{"modify, tags", crowded(over, 5, true), spare(), modifies(2)},
	}
}

// whole shows a list with what lies spare behind it.
func whole[T any](list []T) []T {
	return list[:cap(list)]
}

func wholeStore(s impl.Store) impl.Store {
	facts := append([]impl.Fact{}, whole(s.Facts)...)
	for i := range facts {
		facts[i].Slots = whole(facts[i].Slots)
	}
	s.Facts = facts
	return s
}

// scrawl writes over all that an answer's lists reach.
func scrawl(s impl.Store) {
	for _, f := range s.Facts {
		list := whole(f.Slots)
		for i := range list {
			list[i] = symbol("scrawl")
		}
	}
	list := whole(s.Facts)
	for i := range list {
		list[i] = newFact(-1, "scrawl")
	}
}

func TestArgumentsAreNotWrittenTo(t *testing.T) {
	for _, c := range memoryCalls() {
		facts, slots := copyOf(wholeStore(c.store)), append([]impl.Value{}, whole(c.slots)...)
		c.do(c.store, c.slots)
		if !equalStores(wholeStore(c.store), facts) || !equalSlots(whole(c.slots), slots) {
			t.Errorf("%s: an argument is written to", c.name)
		}
	}
}

func TestAnswersShareNothingWithArguments(t *testing.T) {
	for _, c := range memoryCalls() {
		facts, slots := copyOf(wholeStore(c.store)), append([]impl.Value{}, whole(c.slots)...)
		scrawl(c.do(c.store, c.slots).Store)
		if !equalStores(wholeStore(c.store), facts) || !equalSlots(whole(c.slots), slots) {
			t.Errorf("%s: the answer shares memory with an argument", c.name)
		}
	}
}

func TestListsOfAnAnswerShareNothing(t *testing.T) {
	for _, c := range memoryCalls() {
		got := c.do(c.store, c.slots).Store
		want := copyOf(got)
		for i, f := range got.Facts {
			list := whole(f.Slots)
			for k := range list {
				list[k] = number(int64(100 + i))
			}
			for k := range want.Facts[i].Slots {
				want.Facts[i].Slots[k] = number(int64(100 + i))
			}
		}
		if !equalStores(got, want) {
			t.Errorf("%s: two lists of the answer share memory", c.name)
		}
	}
}

// A later change of the arguments does not reach into an answer.
func TestAnswersStandWhenArgumentsChange(t *testing.T) {
	for _, c := range memoryCalls() {
		got := c.do(c.store, c.slots)
		want := copyOf(got.Store)
		scrawl(c.store)
		list := whole(c.slots)
		for i := range list {
			list[i] = symbol("scrawl")
		}
		if !equalStores(got.Store, want) {
			t.Errorf("%s: the answer hangs on an argument's memory", c.name)
		}
	}
}

func TestEmptyListAndNilAreTheSame(t *testing.T) {
	empty, none := impl.Store{Next: 1, Cap: 2, Single: true, Facts: []impl.Fact{}}, impl.Store{Next: 1, Cap: 2, Single: true}
	if !impl.StoreValid(empty) || !impl.StoreValid(none) {
		t.Fatal("an empty store is valid")
	}
	a, b := impl.Assert(empty, "a", nil), impl.Assert(none, "a", []impl.Value{})
	if !equalChanges(a, b) || a.Tag != 1 {
		t.Fatal(a, b)
	}
	wantChange(t, "nil behind empty", impl.Assert(b.Store, "a", nil), impl.Change{Store: copyOf(b.Store), Code: impl.CodeDup, Tag: 1})
	wantChange(t, "empty behind nil", impl.Assert(a.Store, "a", []impl.Value{}), impl.Change{Store: copyOf(a.Store), Code: impl.CodeDup, Tag: 1})
	mixed := impl.Store{Next: 3, Cap: 2, Single: true, Facts: []impl.Fact{{Tag: 1, Cls: "a"}, {Tag: 2, Cls: "a", Slots: []impl.Value{}}}}
	if impl.StoreValid(mixed) {
		t.Fatal("facts without slots are alike, whether nil or empty")
	}
}
