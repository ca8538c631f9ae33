package tests

import (
	"strings"

	"loop.example/s01311/impl"
)

func number(n int64) impl.Value           { return impl.Value{Kind: impl.ValInt, Num: n} }
func symbol(s string) impl.Value          { return impl.Value{Kind: impl.ValSym, Sym: s} }
func values(v ...impl.Value) []impl.Value { return v }

func newFact(tag int, cls string, slots ...impl.Value) impl.Fact {
	return impl.Fact{Tag: tag, Cls: cls, Slots: slots}
}

func manySlots(n int) []impl.Value {
	return make([]impl.Value, n)
}

// manyFacts tells n facts of the class "a" that differ, with the tags 1 to n.
func manyFacts(n int) []impl.Fact {
	facts := make([]impl.Fact, n)
	for i := range facts {
		facts[i] = newFact(i+1, "a", number(int64(i)))
	}
	return facts
}

func longSymbol(n int) string {
	return strings.Repeat("z", n)
}

// goodSymbols and badSymbols are the edges of what may be a class or a symbol.
func goodSymbols() []string {
	return []string{"a", "z", "a0", "a9", "a-", "not", "a-b-9", "z--", longSymbol(impl.MaxSym)}
}

func badSymbols() []string {
	return []string{
		"", "A", "Z", "0", "9", "-", "-a", "0a", "aB", "a b", " a", "a ", "a_", "a.", "a?", "?a",
		"`", "{", "a`", "a{", "a/", "a:", "a,", "a\x00", "a\n", "\xff", "a\xff", "ä", "aä",
		longSymbol(impl.MaxSym + 1), longSymbol(1000),
	}
}

func goodValues() []impl.Value {
	list := values(number(0), number(-1), number(7), number(-9223372036854775808), number(9223372036854775807))
	for _, s := range goodSymbols() {
		list = append(list, symbol(s))
	}
	return list
}

func badValues() []impl.Value {
	list := values(
		impl.Value{Kind: 2}, impl.Value{Kind: -1}, impl.Value{Kind: 2, Sym: "a"},
		impl.Value{Kind: impl.ValInt, Sym: "a"}, impl.Value{Kind: impl.ValInt, Num: 1, Sym: "a"},
		impl.Value{Kind: impl.ValSym, Num: 1, Sym: "a"}, impl.Value{Kind: impl.ValSym, Num: -1, Sym: "a"},
		impl.Value{Kind: impl.ValSym, Num: 1},
	)
	for _, s := range badSymbols() {
		list = append(list, symbol(s))
	}
	return list
}

func copyOf(s impl.Store) impl.Store {
	facts := make([]impl.Fact, len(s.Facts))
	for i, f := range s.Facts {
		facts[i] = newFact(f.Tag, f.Cls, append([]impl.Value{}, f.Slots...)...)
	}
	s.Facts = facts
	return s
}

func equalSlots(a, b []impl.Value) bool {
	if len(a) != len(b) {
		return false
	}
	for i := range a {
		if a[i] != b[i] {
			return false
		}
	}
	return true
}

func equalFacts(a, b []impl.Fact) bool {
	if len(a) != len(b) {
		return false
	}
	for i := range a {
		if a[i].Tag != b[i].Tag || a[i].Cls != b[i].Cls || !equalSlots(a[i].Slots, b[i].Slots) {
			return false
		}
	}
	return true
}

func equalStores(a, b impl.Store) bool {
	return a.Next == b.Next && a.Cap == b.Cap && a.Single == b.Single && equalFacts(a.Facts, b.Facts)
}

func equalChanges(a, b impl.Change) bool {
	return a.Code == b.Code && a.Tag == b.Tag && equalStores(a.Store, b.Store)
}
