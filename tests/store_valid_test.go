package tests

import (
	"testing"

	"loop.example/s01311/impl"
)

func TestConstantsAreTheDocuments(t *testing.T) {
	rows := [][2]int{
		{impl.MaxFacts, 40}, {impl.MaxSlots, 6}, {impl.MaxSym, 20}, {impl.MaxTag, 1000000},
		{impl.ValInt, 0}, {impl.ValSym, 1},
		{impl.CodeOK, 0}, {impl.CodeBad, 1}, {impl.CodeDup, 2}, {impl.CodeFull, 3}, {impl.CodeTags, 4},
		{impl.CodeNone, 5}, {impl.CodeOver, 6}, {impl.CodeZero, 7}, {impl.CodeType, 8},
	}
	for i, row := range rows {
		if row[0] != row[1] {
			t.Errorf("constant %d is %d, not %d", i, row[0], row[1])
		}
	}
}

func TestValidStores(t *testing.T) {
	full := manyFacts(impl.MaxFacts)
	rows := map[string]impl.Store{
		"empty without room":   {Next: 1},
		"empty":                {Next: 1, Cap: impl.MaxFacts, Single: true},
		"empty list":           {Next: 1, Facts: []impl.Fact{}},
		"next far above":       {Next: impl.MaxTag, Cap: 1},
		"tags used up":         {Next: impl.MaxTag + 1, Cap: 1},
		"greatest tag":         {Next: impl.MaxTag + 1, Cap: 1, Facts: []impl.Fact{newFact(impl.MaxTag, "a")}},
		"next just above":      {Next: 4, Cap: 2, Facts: []impl.Fact{newFact(1, "a"), newFact(3, "b")}},
		"full":                 {Next: impl.MaxFacts + 1, Cap: impl.MaxFacts, Facts: full},
		"full and single":      {Next: impl.MaxFacts + 1, Cap: impl.MaxFacts, Facts: full, Single: true},
		"most slots":           {Next: 2, Cap: 1, Facts: []impl.Fact{newFact(1, "a", manySlots(impl.MaxSlots)...)}},
		"alike but not single": {Next: 3, Cap: 2, Facts: []impl.Fact{newFact(1, "a"), newFact(2, "a")}},
	}
	for name, s := range rows {
		if !impl.StoreValid(s) {
			t.Errorf("%s: a valid store is refused", name)
		}
	}
}

func invalidStores() map[string]impl.Store {
	one := []impl.Fact{newFact(3, "a")}
	return map[string]impl.Store{
		"zero":               {},
		"next 0":             {Next: 0, Cap: 5},
		"next below 0":       {Next: -1, Cap: 5},
		"next too great":     {Next: impl.MaxTag + 2, Cap: 5},
		"cap below 0":        {Next: 1, Cap: -1},
		"cap too great":      {Next: 1, Cap: impl.MaxFacts + 1},
		"more than cap":      {Next: 4, Cap: 1, Facts: manyFacts(2)},
		"one and no room":    {Next: 4, Cap: 0, Facts: one},
		"more than MaxFacts": {Next: 100, Cap: impl.MaxFacts, Facts: manyFacts(impl.MaxFacts + 1)},
		"more than all caps": {Next: 100, Cap: impl.MaxFacts + 1, Facts: manyFacts(impl.MaxFacts + 1)},
		"next is a tag":      {Next: 3, Cap: 5, Facts: one},
		"next below a tag":   {Next: 2, Cap: 5, Facts: one},
		"tag 0":              {Next: 5, Cap: 5, Facts: []impl.Fact{newFact(0, "a")}},
		"tag below 0":        {Next: 5, Cap: 5, Facts: []impl.Fact{newFact(-1, "a"), newFact(1, "b")}},
		"tag too great":      {Next: impl.MaxTag + 1, Cap: 5, Facts: []impl.Fact{newFact(impl.MaxTag+1, "a")}},
		"tag above next":     {Next: impl.MaxTag + 2, Cap: 5, Facts: []impl.Fact{newFact(impl.MaxTag+1, "a")}},
		"tags fall":          {Next: 5, Cap: 5, Facts: []impl.Fact{newFact(2, "a"), newFact(1, "b")}},
		"tags stand":         {Next: 5, Cap: 5, Facts: []impl.Fact{newFact(2, "a"), newFact(2, "b")}},
		"too many slots":     {Next: 5, Cap: 5, Facts: []impl.Fact{newFact(1, "a", manySlots(impl.MaxSlots+1)...)}},
		"many slots, single": {Next: 5, Cap: 5, Single: true, Facts: []impl.Fact{newFact(1, "a", manySlots(50)...)}},
		"bad last value":     {Next: 5, Cap: 5, Facts: []impl.Fact{newFact(1, "a", number(1), impl.Value{Kind: 2})}},
		"bad last class":     {Next: 5, Cap: 5, Facts: []impl.Fact{newFact(1, "a"), newFact(2, "")}},
		"alike":              {Next: 5, Cap: 5, Single: true, Facts: []impl.Fact{newFact(1, "a"), newFact(2, "b"), newFact(4, "a")}},
		"alike with slots": {Next: 5, Cap: 5, Single: true, Facts: []impl.Fact{
			newFact(1, "a", number(1), symbol("x")), newFact(2, "a", number(1), symbol("x"))}},
	}
}

func TestStoresThatAreNotValid(t *testing.T) {
	for name, s := range invalidStores() {
		if impl.StoreValid(s) {
			t.Errorf("%s: taken as valid", name)
		}
	}
}

func TestClassesOfAStore(t *testing.T) {
	for _, cls := range goodSymbols() {
		if !impl.StoreValid(impl.Store{Next: 2, Cap: 1, Facts: []impl.Fact{newFact(1, cls)}}) {
			t.Errorf("class %q is refused", cls)
		}
	}
	for _, cls := range badSymbols() {
		if impl.StoreValid(impl.Store{Next: 2, Cap: 1, Facts: []impl.Fact{newFact(1, cls)}}) {
			t.Errorf("class %q is taken", cls)
		}
	}
}

func TestValuesOfAStore(t *testing.T) {
	for _, v := range goodValues() {
		if !impl.StoreValid(impl.Store{Next: 2, Cap: 1, Facts: []impl.Fact{newFact(1, "a", v)}}) {
			t.Errorf("value %+v is refused", v)
		}
	}
	for _, v := range badValues() {
		if impl.StoreValid(impl.Store{Next: 2, Cap: 1, Facts: []impl.Fact{newFact(1, "a", v)}}) {
			t.Errorf("value %+v is taken", v)
		}
	}
}

// Facts that differ in one thing alone are not alike, the number 0 and a slot
// that is missing among them.
func TestFactsThatAreNotAlike(t *testing.T) {
	facts := []impl.Fact{
		newFact(1, "a"),
		newFact(2, "b"),
		newFact(3, "a", number(0)),
		newFact(4, "a", number(0), number(0)),
		newFact(5, "a", number(1)),
		newFact(6, "a", symbol("a")),
		newFact(7, "a", symbol("b")),
		newFact(8, "a", number(0), number(1)),
		newFact(9, "a", number(1), number(0)),
		newFact(10, "a", manySlots(impl.MaxSlots)...),
		newFact(11, "a", append(manySlots(impl.MaxSlots-1), number(1))...),
	}
	if !impl.StoreValid(impl.Store{Next: 12, Cap: 20, Single: true, Facts: facts}) {
		t.Fatal("facts that differ are taken as alike")
	}
	for _, f := range facts {
		twice := append(append([]impl.Fact{}, facts...), newFact(12, f.Cls, f.Slots...))
		if impl.StoreValid(impl.Store{Next: 13, Cap: 20, Single: true, Facts: twice}) {
			t.Errorf("a second %+v is not seen", f)
		}
	}
}
