package tests

import (
	"strconv"
	"strings"
	"testing"

	"loop.example/s01311/impl"
)

// showReplies writes a reply a command: the word's first letter, the code and
// the tag of a change; of a run the stop, and then what was fired.
func showReplies(list []impl.Reply) string {
	var parts []string
	for _, r := range list {
		letter := "?"
		if r.Kind >= 1 && r.Kind <= 4 {
			letter = " armr"[r.Kind : r.Kind+1]
		}
		switch {
		case r.Kind != impl.CmdRun:
			parts = append(parts, letter+strconv.Itoa(r.Code)+":"+strconv.Itoa(r.Tag))
		case r.Stop == 0:
			parts = append(parts, "run!"+strconv.Itoa(r.Code))
		default:
			parts = append(parts, "run"+strconv.Itoa(r.Stop)+"!"+strconv.Itoa(r.Code)+"["+showFirings(r.Fired)+"]")
		}
	}
	return strings.Join(parts, " ")
}

// equalReplies looks at all fields, whatever the kind.
func equalReplies(a, b []impl.Reply) bool {
	if len(a) != len(b) {
		return false
	}
	for i, x := range a {
		y := b[i]
		if x.Kind != y.Kind || x.Code != y.Code || x.Tag != y.Tag || x.Stop != y.Stop || showFirings(x.Fired) != showFirings(y.Fired) {
			return false
		}
	}
	return true
}

func equalOutcomes(a, b impl.Outcome) bool {
	return a.Code == b.Code && a.Sub == b.Sub && a.Pos == b.Pos && a.Next == b.Next && a.Size == b.Size && equalFacts(a.Facts, b.Facts) && equalReplies(a.Replies, b.Replies)
}

func modelModes(rules []impl.Rule, how int) []int {
	modes := [][]int{modesOf(len(rules), impl.ModeRete), modesOf(len(rules), impl.ModeTreat), nil, mixedModes(len(rules), impl.ModeRete)}
	for _, r := range rules {
		modes[2] = append(modes[2], modelMode(r))
	}
	return modes[how]
}

// modelSession is the plain system: the models of all chapters, one behind the
// other.
func modelSession(src, script []byte, how, room int, single bool) impl.Outcome {
	if how < 0 || how > 3 || room < 0 || room > impl.MaxFacts {
		return impl.Outcome{Code: impl.OutArgs}
	}
	text, commands := modelRules(src), modelScript(script)
	if text.Code != impl.ParseOK {
		return impl.Outcome{Code: impl.OutSource, Sub: text.Code, Pos: text.Pos}
	}
	if k := modelCheck(text.Rules); k.Code != impl.CheckOK {
		return impl.Outcome{Code: impl.OutRules, Sub: k.Code, Pos: k.Rule}
	}
	if commands.Code != impl.ParseOK {
		return impl.Outcome{Code: impl.OutScript, Sub: commands.Code, Pos: commands.Pos}
	}
	ran := impl.Ran{Store: impl.Store{Next: 1, Cap: room, Single: single}}
	var out impl.Outcome
	for _, c := range commands.List {
		var reply impl.Reply
		ran, reply = modelCommand(text.Rules, ran, c)
		out.Replies = append(out.Replies, reply)
	}
	out.Facts, out.Next = ran.Store.Facts, ran.Store.Next
	out.Size = modelSize(text.Rules, modelModes(text.Rules, how), ran.Store.Facts)
	return out
}

// modelCommand goes from the store and what is spent to those behind a command.
func modelCommand(rules []impl.Rule, ran impl.Ran, c impl.Cmd) (impl.Ran, impl.Reply) {
	if c.Kind == impl.CmdRun {
		if c.N < 0 || c.N > impl.MaxFuel {
			return ran, impl.Reply{Kind: c.Kind, Code: impl.CodeBad}
		}
		ran = modelRun(rules, ran.Store, ran.Spent, int(c.N))
		reply := impl.Reply{Kind: c.Kind, Stop: ran.Stop, Fired: ran.Fired}
		for _, f := range ran.Fired {
			reply.Code = f.Code
		}
		return ran, reply
	}
	tag := -1
	if c.N >= 1 && c.N <= impl.MaxTag {
		tag = int(c.N)
	}
	change := model(ran.Store, move{kind: c.Kind - impl.CmdAssert, cls: c.Cls, tag: tag, slots: c.Slots})
	ran.Store = change.Store
	ran.Spent = within(ran.Spent, modelConflict(rules, ran.Store.Facts))
	return ran, impl.Reply{Kind: c.Kind, Code: change.Code, Tag: change.Tag}
}

// sessions are the outcomes of all ways to tell modes, which must differ in Size
// alone, and in that as the model says.
func sessions(t *testing.T, src, script string, room int, single bool) []impl.Outcome {
	t.Helper()
	var list []impl.Outcome
	want := modelSession([]byte(src), []byte(script), 0, room, single)
	rules := modelRules([]byte(src)).Rules
	for how := range 4 {
		got := impl.Session([]byte(src), []byte(script), how, room, single)
		if want.Code == impl.OutOK {
			want.Size = modelSize(rules, modelModes(rules, how), want.Facts)
		}
		if !equalOutcomes(got, want) {
			t.Fatalf("%s with %s, how %d, %d facts, single %v: answered\n%+v, asked for\n%+v", src, script, how, room, single, got, want)
		}
		list = append(list, got)
	}
	return list
}

// A sessionRow is a session; the replies are written by showReplies.
type sessionRow struct {
	what    string
	src     string
	script  string
	replies string
	facts   string
	next    int
}

func wantSessions(t *testing.T, rows []sessionRow, room int, single bool) {
	t.Helper()
	for _, row := range rows {
		for how, got := range sessions(t, row.src, row.script, room, single) {
			if got.Code != impl.OutOK || showReplies(got.Replies) != row.replies {
				t.Errorf("%s, how %d: %d %s, asked for %s", row.what, how, got.Code, showReplies(got.Replies), row.replies)
			}
			if facts := showFacts(got.Facts); facts != row.facts || got.Next != row.next {
				t.Errorf("%s, how %d: %s and next %d, asked for %s and %d", row.what, how, facts, got.Next, row.facts, row.next)
			}
		}
	}
}
