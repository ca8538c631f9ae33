package tests

import (
	"math/big"
	"regexp"
	"slices"
	"strconv"
	"strings"
	"unicode/utf8"

	"loop.example/s01311/impl"
)

// The model cuts the whole text into words first, then goes over them with a
// stack of what is still to come, and builds the rules from the tree of
// brackets once there is no fault.

type modelWord struct {
	kind string
	text string
	pos  int
}

var (
	modelCut    = regexp.MustCompile(`^(?:[\t\n\r ]|;[^\n]*)*([()]|[!-'*-:<-~]+|(?s:.)|$)`)
	modelNumber = regexp.MustCompile(`^(0|-?[1-9][0-9]*)$`)
	modelSymbol = regexp.MustCompile(`^[a-z][a-z0-9-]{0,19}$`)
)

func modelKind(text string) string {
	n, isInt := new(big.Int).SetString(text, 10)
	switch {
	case text == "":
		return "end"
	case strings.ContainsFunc(text, func(r rune) bool { return r < 33 || r > 126 }):
		return "byte"
	case text == "(" || text == ")" || text == "_" || text == "=>":
		return text
	case slices.Contains(strings.Fields("= != < > <= >="), text):
		return "test"
	case slices.Contains(strings.Fields("+ - * / %"), text):
		return "arith"
	case modelNumber.MatchString(text) && isInt && n.IsInt64():
		return "num"
	case modelSymbol.MatchString(text):
		return "sym"
	case text[0] == '?' && modelSymbol.MatchString(text[1:]):
		return "var"
	}
	return "none"
}

// modelWords maps bytes to the runes of their numbers, since regexp reads UTF-8.
func modelWords(src []byte) []modelWord {
	runes := make([]rune, len(src))
	for i, b := range src {
		runes[i] = rune(b)
	}
	var list []modelWord
	rest, at := string(runes), 0
	for {
		m := modelCut.FindStringSubmatch(rest)
		rest = rest[len(m[0]):]
		at += utf8.RuneCountInString(m[0])
		list = append(list, modelWord{modelKind(m[1]), m[1], at - utf8.RuneCountInString(m[1])})
		if m[1] == "" {
			return list
		}
	}
}

type modelFrame struct {
	what  string
	count int
}

type modelStack struct {
	frames []modelFrame
	exprs  int
}

func (s *modelStack) pop() { s.frames = s.frames[:len(s.frames)-1] }

// push lays the first of its words on top.
func (s *modelStack) push(count int, what ...string) {
	for i := len(what) - 1; i >= 0; i-- {
		s.frames = append(s.frames, modelFrame{what[i], count})
	}
}

var modelHeads = map[string][]string{
	"act add": {"class", "args"}, "act drop": {"num", ")"}, "act mod": {"num", "args"}, "act halt": {")"},
	"cmd assert": {"class", "values"}, "cmd retract": {"num", ")"}, "cmd modify": {"num", "values"}, "cmd run": {"num", ")"},
	"rulehead rule": {"sym", "num", "pats", "acts"},
}

// A modelList is what a list ends with, how many it may have, and what stands
// behind the '(' of one of them.
var modelLists = map[string]struct {
	end   string
	most  int
	inner string
}{
	"source": {"end", impl.MaxRules, "rulehead"}, "script": {"end", impl.MaxCmds, "cmd"},
	"pats": {"=>", impl.MaxPats, "pathead"}, "acts": {")", impl.MaxActs, "act"},
}

// step answers the code of the fault that a legal word is, if it is one.
func (s *modelStack) step(w modelWord) int {
	top := &s.frames[len(s.frames)-1]
	value := w.kind == "num" || w.kind == "sym"
	if l, is := modelLists[top.what]; is {
		return s.stepList(top, w, l.end, l.most, l.inner)
	}
	switch top.what {
	case "sym", "num", ")", "test", "arith":
		s.pop()
		return modelForm(w.kind != s.popped())
	case "class":
		s.pop()
		return modelForm(w.kind != "sym" || w.text == "not")
	case "operand":
		s.pop()
		return modelForm(!value && w.kind != "var")
	case "pathead":
		s.pop()
		s.push(0, "terms")
		if w.text == "not" {
			s.push(0, "class")
		}
		return modelForm(w.kind != "sym")
	case "terms", "args", "values":
		return s.stepSlots(top, w, value)
	case "expr":
		depth := top.count
		s.pop()
		return s.stepExpr(w, depth)
	}
	parts, known := modelHeads[top.what+" "+w.text]
	s.pop()
	s.push(0, parts...)
	return modelForm(!known)
}

// popped is what the frame that was popped last asked for.
func (s *modelStack) popped() string { return s.frames[:len(s.frames)+1][len(s.frames)].what }

func modelForm(wrong bool) int {
	if wrong {
		return impl.ParseForm
	}
	return 0
}

func (s *modelStack) stepList(top *modelFrame, w modelWord, end string, most int, inner string) int {
	switch {
	case w.kind == end:
		s.pop()
	case w.kind != "(":
		return impl.ParseForm
	case top.count == most:
		return impl.ParseLimit
	default:
		top.count++
		if inner == "rulehead" {
			s.exprs = 0
		}
		s.push(0, inner)
	}
	return 0
}

func (s *modelStack) stepSlots(top *modelFrame, w modelWord, value bool) int {
	what := top.what
	switch {
	case w.kind == ")":
		s.pop()
		return 0
	case w.kind == "end":
		return impl.ParseForm
	case top.count == impl.MaxSlots:
		return impl.ParseLimit
	}
	top.count++
	switch {
	case what == "args":
		return s.stepExpr(w, 0)
	case what == "terms" && w.kind == "(":
		s.push(0, "test", "operand", ")")
		return 0
	case what == "terms" && (w.kind == "_" || w.kind == "var"):
		return 0
	}
	return modelForm(!value)
}

func (s *modelStack) stepExpr(w modelWord, depth int) int {
	switch {
	case w.kind == ")" || w.kind == "end":
		return impl.ParseForm
	case s.exprs == impl.MaxExprs:
		return impl.ParseLimit
	}
	s.exprs++
	switch w.kind {
	case "num", "sym", "var":
		return 0
	case "(":
		if depth == impl.MaxDepth {
			return impl.ParseLimit
		}
		s.push(depth+1, "arith", "expr", "expr", ")")
		return 0
	}
	return impl.ParseForm
}

// modelFault answers the fault of a text that begins as what, and its words.
func modelFault(src []byte, what string) (int, int, []modelWord) {
	if len(src) > impl.MaxSource {
		return impl.ParseLimit, 0, nil
	}
	words := modelWords(src)
	s := &modelStack{frames: []modelFrame{{what, 0}}}
	for _, w := range words {
		switch w.kind {
		case "byte":
			return impl.ParseByte, w.pos, nil
		case "none":
			return impl.ParseWord, w.pos, nil
		}
		if code := s.step(w); code != 0 {
			return code, w.pos, nil
		}
	}
	return 0, 0, words[:len(words)-1]
}

// A modelTree is a word, or what stands in a pair of brackets.
type modelTree struct {
	word modelWord
	list []modelTree
}

func modelTrees(words []modelWord) []modelTree {
	stack := [][]modelTree{nil}
	for _, w := range words {
		top := len(stack) - 1
		switch w.kind {
		case "(":
			stack = append(stack, nil)
		case ")":
			stack[top-1] = append(stack[top-1], modelTree{list: stack[top]})
			stack = stack[:top]
		default:
			stack[top] = append(stack[top], modelTree{word: w})
		}
	}
	return stack[0]
}

func (m modelTree) num() int64 {
	n, _ := strconv.ParseInt(m.word.text, 10, 64)
	return n
}

func (m modelTree) value() impl.Value {
	if m.word.kind == "num" {
		return number(m.num())
	}
	return symbol(m.word.text)
}

func (m modelTree) values() []impl.Value {
	var list []impl.Value
	for _, x := range m.list {
		list = append(list, x.value())
	}
	return list
}

func (m modelTree) operator() int {
	return 1 + slices.Index(strings.Fields("= != < > <= >="), m.word.text)
}

func (m modelTree) term() impl.Term {
	switch {
	case m.list != nil && m.list[1].word.kind == "var":
		return testVar(m.list[0].operator(), m.list[1].word.text[1:])
	case m.list != nil:
		return testVal(m.list[0].operator(), m.list[1].value())
	case m.word.kind == "var":
		return termVar(m.word.text[1:])
	case m.word.kind == "_":
		return termAny()
	}
	return termConst(m.value())
}

func (m modelTree) pattern() impl.Pattern {
	var p impl.Pattern
	list := m.list
	if list[0].word.text == "not" {
		p.Neg, list = true, list[1:]
	}
	p.Cls = list[0].word.text
	for _, x := range list[1:] {
		p.Terms = append(p.Terms, x.term())
	}
	return p
}

func (m modelTree) expr(r *impl.Rule) int {
	var e impl.Expr
	switch {
	case m.list != nil:
		e = exprOp(m.list[0].word.text[0], m.list[1].expr(r), m.list[2].expr(r))
	case m.word.kind == "var":
		e = exprVar(m.word.text[1:])
	default:
		e = exprConst(m.value())
	}
	r.Exprs = append(r.Exprs, e)
	return len(r.Exprs) - 1
}

func (m modelTree) action(r *impl.Rule) impl.Action {
	kinds := strings.Fields("add drop mod halt")
	a := impl.Action{Kind: 1 + slices.Index(kinds, m.list[0].word.text)}
	if a.Kind == impl.ActAdd {
		a.Cls = m.list[1].word.text
	}
	if k := new(big.Int); a.Kind == impl.ActDrop || a.Kind == impl.ActMod {
		k.SetString(m.list[1].word.text, 10)
		if k.CmpAbs(big.NewInt(1000000)) <= 0 {
			a.K = int(k.Int64())
		}
	}
	for i := 2; i < len(m.list); i++ {
		a.Args = append(a.Args, m.list[i].expr(r))
	}
	return a
}

func modelRules(src []byte) impl.Parsed {
	code, pos, words := modelFault(src, "source")
	out := impl.Parsed{Code: code, Pos: pos}
	for _, m := range modelTrees(words) {
		r := impl.Rule{Name: m.list[1].word.text, Salience: m.list[2].num()}
		then := slices.IndexFunc(m.list, func(x modelTree) bool { return x.word.kind == "=>" })
		for _, x := range m.list[3:then] {
			r.Pats = append(r.Pats, x.pattern())
		}
		for _, x := range m.list[then+1:] {
			r.Acts = append(r.Acts, x.action(&r))
		}
		out.Rules = append(out.Rules, r)
	}
	return out
}

func modelScript(src []byte) impl.Commands {
	code, pos, words := modelFault(src, "script")
	out := impl.Commands{Code: code, Pos: pos}
	for _, m := range modelTrees(words) {
		kinds := strings.Fields("assert retract modify run")
		c := impl.Cmd{Kind: 1 + slices.Index(kinds, m.list[0].word.text)}
		if c.Kind == impl.CmdAssert {
			c.Cls = m.list[1].word.text
		} else {
			c.N = m.list[1].num()
		}
		c.Slots = modelTree{list: m.list[2:]}.values()
		out.List = append(out.List, c)
	}
	return out
}
