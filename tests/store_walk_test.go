package tests

import (
	"strconv"
	"strings"
	"testing"

	"loop.example/s01311/impl"
)

// dice is a row of numbers that is the same in every run.
type dice uint64

func (d *dice) roll(n int) int {
	*d = *d*6364136223846793005 + 1442695040888963407
	return int(uint64(*d) >> 33 % uint64(n))
}

// A move is one change of a walk.
type move struct {
	kind  int
	cls   string
	tag   int
	slots []impl.Value
}

func (m move) make(s impl.Store) impl.Change {
	switch m.kind {
	case 0:
		return impl.Assert(s, m.cls, m.slots)
	case 1:
		return impl.Retract(s, m.tag)
	}
	return impl.Modify(s, m.tag, m.slots)
}

func (d *dice) slots() []impl.Value {
	pool := values(number(0), number(1), symbol("x"))
	var list []impl.Value
	for range d.roll(3) {
		list = append(list, pool[d.roll(len(pool))])
	}
	if d.roll(25) == 0 {
		list = append(list, impl.Value{Kind: 5})
	}
	return list
}

func (d *dice) move(s impl.Store) move {
	m := move{kind: d.roll(4) % 3, cls: []string{"a", "b"}[d.roll(2)], tag: d.roll(9), slots: d.slots()}
	if n := len(s.Facts); n > 0 && d.roll(4) > 0 {
		m.tag = s.Facts[d.roll(n)].Tag
	}
	if d.roll(25) == 0 {
		m.cls = "Bad"
	}
	return m
}

// The model says the document over again in the plainest way: facts are
// compared by a text, and nothing is looked up but by going through all.
func textOf(cls string, slots []impl.Value) string {
	parts := []string{cls}
	for _, v := range slots {
		parts = append(parts, strconv.Itoa(v.Kind)+":"+strconv.FormatInt(v.Num, 10)+":"+v.Sym)
	}
	return strings.Join(parts, " ")
}

func modelBad(m move) bool {
	for _, v := range m.slots {
		if m.kind != 1 && v.Kind == 5 {
			return true
		}
	}
	return m.kind == 0 && m.cls == "Bad"
}

func model(s impl.Store, m move) impl.Change {
	s = copyOf(s)
	if modelBad(m) {
		return impl.Change{Code: impl.CodeBad}
	}
	rest, cls, found := []impl.Fact{}, m.cls, m.kind == 0
	for _, f := range s.Facts {
		if m.kind != 0 && f.Tag == m.tag {
			cls, found = f.Cls, true
			continue
		}
		rest = append(rest, f)
	}
	if !found {
		return impl.Change{Store: s, Code: impl.CodeNone}
	}
	if m.kind == 1 {
		s.Facts = rest
		return impl.Change{Store: s, Tag: m.tag}
	}
	for _, f := range rest {
		if s.Single && textOf(f.Cls, f.Slots) == textOf(cls, m.slots) {
			return impl.Change{Store: s, Code: impl.CodeDup, Tag: f.Tag}
		}
	}
	if len(rest) >= s.Cap {
		return impl.Change{Store: s, Code: impl.CodeFull}
	}
	if s.Next > impl.MaxTag {
		return impl.Change{Store: s, Code: impl.CodeTags}
	}
	s.Facts = append(rest, newFact(s.Next, cls, m.slots...))
	s.Next++
	return impl.Change{Store: s, Tag: s.Next - 1}
}

// checkPromise1 holds one change of a valid store against the promise's words.
func checkPromise1(t *testing.T, s impl.Store, m move, c impl.Change) {
	t.Helper()
	switch {
	case c.Code == impl.CodeBad:
		if !equalChanges(c, impl.Change{Code: impl.CodeBad}) {
			t.Fatalf("%+v: with CodeBad all else is zero: %+v", m, c)
		}
	case c.Code != impl.CodeOK:
		if !equalStores(c.Store, s) {
			t.Fatalf("%+v: code %d changed the store", m, c.Code)
		}
	case c.Store.Next < s.Next || m.kind != 1 && (c.Tag != s.Next || c.Store.Next != s.Next+1):
		t.Fatalf("%+v: tags do not rise: %+v behind %+v", m, c, s)
	}
	if c.Code != impl.CodeBad && !impl.StoreValid(c.Store) {
		t.Fatalf("%+v of %+v: the answer's store is not valid: %+v", m, s, c.Store)
	}
}

func walk(t *testing.T, d *dice, s impl.Store, steps int, codes map[int]int) {
	for range steps {
		m := d.move(s)
		c := m.make(s)
		checkPromise1(t, s, m, c)
		if want := model(s, m); !equalChanges(c, want) {
			t.Fatalf("%+v of %+v: answered %+v, asked for %+v", m, s, c, want)
		}
		if again := m.make(s); !equalChanges(c, again) {
			t.Fatalf("%+v of %+v: two answers: %+v and %+v", m, s, c, again)
		}
		codes[m.kind*10+c.Code]++
		if c.Code != impl.CodeBad {
			s = c.Store
		}
	}
}

func TestWalksKeepPromise1(t *testing.T) {
	codes, d := map[int]int{}, dice(1)
	for room := range 9 {
		for _, next := range []int{1, 500, impl.MaxTag - 30, impl.MaxTag, impl.MaxTag + 1} {
			walk(t, &d, impl.Store{Next: next, Cap: room}, 200, codes)
			walk(t, &d, impl.Store{Next: next, Cap: room, Single: true}, 200, codes)
		}
	}
	for _, want := range []int{0, 1, 2, 3, 4, 10, 15, 20, 21, 22, 24, 25} {
		if codes[want] == 0 {
			t.Errorf("no walk met code %d of kind %d", want%10, want/10)
		}
	}
}

// A store that is filled up to the bound and emptied again goes on with the tags.
func TestFillAndEmpty(t *testing.T) {
	s := impl.Store{Next: 1, Cap: impl.MaxFacts, Single: true}
	for i := range impl.MaxFacts {
		c := impl.Assert(s, "a", values(number(int64(i))))
		if c.Code != impl.CodeOK || c.Tag != i+1 || !impl.StoreValid(c.Store) {
			t.Fatal(i, c)
		}
		s = c.Store
	}
	if c := impl.Assert(s, "b", nil); c.Code != impl.CodeFull || !equalStores(c.Store, s) {
		t.Fatal(c)
	}
	for i := range impl.MaxFacts {
		s = impl.Retract(s, impl.MaxFacts-i).Store
	}
	if len(s.Facts) != 0 || s.Next != impl.MaxFacts+1 {
		t.Fatal(s)
	}
	if c := impl.Assert(s, "b", nil); c.Code != impl.CodeOK || c.Tag != impl.MaxFacts+1 {
		t.Fatal(c)
	}
}
