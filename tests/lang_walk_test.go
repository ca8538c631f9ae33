package tests

import (
	"strconv"
	"strings"
	"testing"

	"loop.example/s01311/impl"
)

func (d *dice) pick(from ...string) string { return from[d.roll(len(from))] }

// some writes a number of things, mostly few, now and then more than may stand
// there.
func (d *dice) some(few, most int, one func() string) string {
	n := d.roll(few + 1)
	if d.roll(12) == 0 {
		n = most + d.roll(3) - 1
	}
	var list []string
	for range n {
		list = append(list, one())
	}
	return strings.Join(list, d.gap())
}

func (d *dice) gap() string {
	if d.roll(20) == 0 {
		return d.pick("\n", "\t", "\r\n", "  ", " ;c (\n", ";\n")
	}
	return " "
}

func (d *dice) number() string {
	return d.pick("0", "1", "2", "-1", "7", "1000000", "-1000000", "1000001", "9223372036854775807", "-9223372036854775808")
}

func (d *dice) symbol() string   { return d.pick("a", "b", "x", "not", "rule", "add", "run", "a-1") }
func (d *dice) class() string    { return d.pick("a", "b", "c", "halt") }
func (d *dice) variable() string { return "?" + d.pick("x", "y", "z", "x", "y") }

func (d *dice) value() string {
	if d.roll(2) == 0 {
		return d.symbol()
	}
	return d.number()
}

func (d *dice) term() string {
	switch d.roll(5) {
	case 0:
		return "_"
	case 1:
		return d.value()
	case 2:
		return "(" + d.pick("=", "!=", "<", ">", "<=", ">=") + d.gap() + d.pick(d.value(), d.variable()) + ")"
	}
	return d.variable()
}

func (d *dice) pattern() string {
	return "(" + d.pick("", "", "", "not ") + d.class() + " " + d.some(3, impl.MaxSlots, d.term) + ")"
}

func (d *dice) expr() string {
	switch d.roll(4) {
	case 0:
		return "(" + d.pick("+", "-", "*", "/", "%") + " " + d.expr() + d.gap() + d.expr() + ")"
	case 1:
		return d.value()
	case 2:
		if d.roll(40) == 0 {
			return nested(impl.MaxDepth+d.roll(3)-1, d.roll(2) == 0)
		}
	}
	return d.variable()
}

func (d *dice) action() string {
	switch d.roll(5) {
	case 0:
		return "(halt)"
	case 1:
		return "(drop " + d.pick("1", "1", "2", "0", d.number()) + ")"
	case 2:
		return "(mod " + d.pick("1", "1", "2", d.number()) + " " + d.some(3, impl.MaxSlots, d.expr) + ")"
	}
	return "(add " + d.class() + d.gap() + d.some(4, impl.MaxSlots, d.expr) + ")"
}

func (d *dice) rule() string {
	name := d.pick("r", "s", "t") + strconv.Itoa(d.roll(3))
	return "(rule " + name + " " + d.number() + d.gap() + d.some(3, impl.MaxPats, d.pattern) + " =>" + d.gap() + d.some(4, impl.MaxActs, d.action) + ")"
}

func (d *dice) command() string {
	switch d.roll(4) {
	case 0:
		return "(retract " + d.number() + ")"
	case 1:
		return "(run " + d.number() + ")"
	case 2:
		return "(modify " + d.number() + d.gap() + d.some(3, impl.MaxSlots, d.value) + ")"
	}
	return "(assert " + d.class() + " " + d.some(3, impl.MaxSlots, d.value) + ")"
}

// harm changes a text a little: a byte or a word is dropped, put in or doubled,
// or the text is cut off.
func (d *dice) harm(text string) string {
	if text == "" {
		return d.pick("(", ")", "\x00", "rule", "A")
	}
	at := d.roll(len(text))
	switch d.roll(6) {
	case 0:
		return text[:at]
	case 1:
		return text[:at] + text[at+1:]
	case 2:
		return text[:at] + string([]byte{byte(d.roll(256))}) + text[at:]
	case 3:
		return text[:at] + " " + d.pick("(", ")", "_", "=>", "?x", "a", "not", "0", "-0", "+", "<", "Z", "rule", "(halt)", "(a)") + " " + text[at:]
	case 4:
		return text[:at] + d.pick(";", "\n", " ", "(", ")") + text[at:]
	}
	to := min(len(text), at+1+d.roll(12))
	return text[:to] + text[at:to] + text[to:]
}

func (d *dice) text(one func() string, most int) string {
	text := d.some(3, most, one)
	for range d.roll(3) {
		text = d.harm(text)
	}
	return text
}

// checkText holds one text of rules against the model and promises 2 and 3.
func checkText(t *testing.T, src []byte, met map[string]int) {
	t.Helper()
	got, want := impl.ParseRules(src), modelRules(src)
	if !same(got, want) {
		t.Fatalf("%q: answered\n%+v, asked for\n%+v", src, got, want)
	}
	met["parse "+strconv.Itoa(got.Code)]++
	k := impl.CheckRules(got.Rules)
	met["check "+strconv.Itoa(k.Code)]++
	if k != modelCheck(got.Rules) {
		t.Fatalf("%q: answered %+v, asked for %+v", src, k, modelCheck(got.Rules))
	}
	if k.Code == impl.CheckShape {
		t.Fatalf("%q: CheckShape of rules that were parsed: %+v", src, k)
	}
	text := impl.PrintRules(got.Rules)
	if k.Code != impl.CheckOK {
		if len(text) != 0 {
			t.Fatalf("%q: printed, though not checked", src)
		}
		return
	}
	if len(text) <= impl.MaxSource {
		wantBack(t, got.Rules)
	}
}

func TestTextsOfRulesAgainstTheModel(t *testing.T) {
	d, met := dice(2), map[string]int{}
	for range 6000 {
		checkText(t, []byte(d.text(d.rule, impl.MaxRules)), met)
	}
	for _, want := range []string{"parse 0", "parse 1", "parse 2", "parse 3", "parse 4", "check 0", "check 2", "check 3", "check 4", "check 5"} {
		if met[want] < 10 {
			t.Errorf("%s was met %d times", want, met[want])
		}
	}
}

func TestScriptsAgainstTheModel(t *testing.T) {
	d, met := dice(3), map[int]int{}
	for range 2500 {
		src := []byte(d.text(d.command, impl.MaxCmds))
		got, want := impl.ParseScript(src), modelScript(src)
		if !same(got, want) {
			t.Fatalf("%q: answered\n%+v, asked for\n%+v", src, got, want)
		}
		met[got.Code]++
	}
	for code := range impl.ParseLimit + 1 {
		if met[code] < 20 {
			t.Errorf("code %d was met %d times", code, met[code])
		}
	}
}

// Bytes and words in no order at all.
func TestSoupAgainstTheModel(t *testing.T) {
	d, met := dice(4), map[string]int{}
	for range 3000 {
		text := ""
		for range d.roll(30) {
			text += d.pick("(", ")", "(", ")", " ", "rule", "a", " 0 ", "=>", "not", " ?x", "_", "+", "<", "add", " 1 ", "(rule a 0 (b ?x) => ", ";\n", string([]byte{byte(d.roll(256))}))
		}
		checkText(t, []byte(text), met)
		if got, want := impl.ParseScript([]byte(text)), modelScript([]byte(text)); !same(got, want) {
			t.Fatalf("%q: answered\n%+v, asked for\n%+v", text, got, want)
		}
	}
}
