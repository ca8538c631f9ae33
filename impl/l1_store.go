package impl

const (
	MaxFacts = 40
	MaxSlots = 6
	MaxSym   = 20
	MaxTag   = 1000000
)

const (
	ValInt = iota
	ValSym
)

const (
	CodeOK = iota
	CodeBad
	CodeDup
	CodeFull
	CodeTags
	CodeNone
	CodeOver
	CodeZero
	CodeType
)

type Value struct {
	Kind int
	Num  int64
	Sym  string
}

type Fact struct {
	Tag   int
	Cls   string
	Slots []Value
}

type Store struct {
	Facts  []Fact
	Next   int
	Cap    int
	Single bool
}

type Change struct {
	Store Store
	Code  int
	Tag   int
}

// request has room for what any of the changes is told, so that all of them
// have one form and can stand in one table.
type request struct {
	cls   string
	tag   int
	slots []Value
}

// likeness is a fact without its tag, in a form that Go compares whole and
// takes as a map's key. The count is there because a slot that is missing would
// look like the number 0.
type likeness struct {
	cls   string
	count int
	slots [MaxSlots]Value
}

// noTag is no fact's tag, since tags begin at 1.
const noTag = 0

func StoreValid(s Store) bool {
	return s.valid()
}

func Assert(s Store, cls string, slots []Value) Change {
	return changeBy(CmdAssert)(s, request{cls: cls, slots: slots})
}

func Retract(s Store, tag int) Change {
	return changeBy(CmdRetract)(s, request{tag: tag})
}

func Modify(s Store, tag int, slots []Value) Change {
	return changeBy(CmdModify)(s, request{tag: tag, slots: slots})
}

func changeBy(kind int) func(Store, request) Change {
	table := [...]func(Store, request) Change{
		CmdAssert:  Store.assert,
		CmdRetract: Store.retract,
		CmdModify:  Store.modify,
	}
	return table[kind]
}

func (s Store) assert(r request) Change {
	if !s.valid() || !goodSymbol(r.cls) || !goodSlots(r.slots) {
		return Change{Code: CodeBad}
	}
	fact := Fact{Tag: s.Next, Cls: r.cls, Slots: r.slots}
	if tag := s.twin(fact, noTag); tag != noTag {
		return s.refuse(CodeDup, tag)
	}
	if len(s.Facts) >= s.Cap {
		return s.refuse(CodeFull, noTag)
	}
	if s.Next > MaxTag {
		return s.refuse(CodeTags, noTag)
	}
	return s.copied().plus(fact)
}

func (s Store) retract(r request) Change {
	if !s.valid() {
		return Change{Code: CodeBad}
	}
	at, found := s.places()[r.tag]
	if !found {
		return s.refuse(CodeNone, noTag)
	}
	return Change{Store: s.without(at), Code: CodeOK, Tag: r.tag}
}

func (s Store) modify(r request) Change {
	if !s.valid() || !goodSlots(r.slots) {
		return Change{Code: CodeBad}
	}
	at, found := s.places()[r.tag]
	if !found {
		return s.refuse(CodeNone, noTag)
	}
	fact := Fact{Tag: s.Next, Cls: s.Facts[at].Cls, Slots: r.slots}
	if tag := s.twin(fact, r.tag); tag != noTag {
		return s.refuse(CodeDup, tag)
	}
	if s.Next > MaxTag {
		return s.refuse(CodeTags, noTag)
	}
	return s.without(at).plus(fact)
}

func (s Store) valid() bool {
	if s.Cap < 0 || s.Cap > MaxFacts || len(s.Facts) > s.Cap {
		return false
	}
	if s.Next < 1 || s.Next > MaxTag+1 || !goodFacts(s.Facts) {
		return false
	}
	// Tags rise, so the last fact's is the greatest.
	if n := len(s.Facts); n > 0 && s.Facts[n-1].Tag >= s.Next {
		return false
	}
	return !s.Single || allUnlike(s.Facts)
}

// twin answers the tag of the fact that bars fact from a store with Single
// set, or noTag. The fact with the tag leaving is about to go and bars nothing.
func (s Store) twin(fact Fact, leaving int) int {
	if !s.Single {
		return noTag
	}
	wanted := fact.key()
	for _, f := range s.Facts {
		if f.Tag != leaving && f.key() == wanted {
			return f.Tag
		}
	}
	return noTag
}

func (s Store) refuse(code int, tag int) Change {
	return Change{Store: s.copied(), Code: code, Tag: tag}
}

func (s Store) places() map[int]int {
	at := make(map[int]int, len(s.Facts))
	for i, f := range s.Facts {
		at[f.Tag] = i
	}
	return at
}

func (s Store) copied() Store {
	s.Facts = copyFacts(s.Facts)
	return s
}

func (s Store) without(at int) Store {
	left := copyFacts(s.Facts[:at])
	s.Facts = append(left, copyFacts(s.Facts[at+1:])...)
	return s
}

// plus writes into the memory behind s.Facts: s must be a copy already.
func (s Store) plus(fact Fact) Change {
	s.Facts = append(s.Facts, fact.copied())
	s.Next = fact.Tag + 1
	return Change{Store: s, Code: CodeOK, Tag: fact.Tag}
}

func (f Fact) copied() Fact {
	f.Slots = append([]Value(nil), f.Slots...)
	return f
}

// key needs a fact with good slots: more would not fit.
func (f Fact) key() likeness {
	key := likeness{cls: f.Cls, count: len(f.Slots)}
	copy(key.slots[:], f.Slots)
	return key
}

func (f Fact) good() bool {
	return f.Tag >= 1 && f.Tag <= MaxTag && goodSymbol(f.Cls) && goodSlots(f.Slots)
}

func (v Value) good() bool {
	if v.Kind == ValSym {
		return v.Num == 0 && goodSymbol(v.Sym)
	}
	return v.Kind == ValInt && v.Sym == ""
}

func copyFacts(facts []Fact) []Fact {
	var out []Fact
	for _, f := range facts {
		out = append(out, f.copied())
	}
	return out
}

func allUnlike(facts []Fact) bool {
	tagOf := make(map[likeness]int, len(facts))
	for _, f := range facts {
		tagOf[f.key()] = f.Tag
	}
	return len(tagOf) == len(facts)
}

func goodFacts(facts []Fact) bool {
	if len(facts) > MaxFacts {
		return false
	}
	last := noTag
	for _, f := range facts {
		if f.Tag <= last || !f.good() {
			return false
		}
		last = f.Tag
	}
	return true
}

func goodSlots(slots []Value) bool {
	if len(slots) > MaxSlots {
		return false
	}
	for _, v := range slots {
		if !v.good() {
			return false
		}
	}
	return true
}

func goodSymbol(text string) bool {
	if len(text) < 1 || len(text) > MaxSym || !isLetter(text[0]) {
		return false
	}
	for i := 1; i < len(text); i++ {
		if b := text[i]; !isLetter(b) && !isDigit(b) && b != '-' {
			return false
		}
	}
	return true
}

func isLetter(b byte) bool {
	return b >= 'a' && b <= 'z'
}

func isDigit(b byte) bool {
	return b >= '0' && b <= '9'
}
