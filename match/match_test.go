package match

import (
	"math/rand/v2"
	"pluvial/api"
	"regexp"
	"slices"
	"strconv"
	"strings"
	"testing"
)

// The tests hold the package against answers told one by one, against the library's patterns, and against a pattern that says how selectors are written.

// ask is a matcher.
func ask(name string, op int, value string) Matcher {
	return Matcher{Name: name, Op: op, Value: value}
}

// some is a list of matchers.
func some(l ...Matcher) []Matcher { return l }

// l are labels by pairs: a name and a value.
func l(pairs ...string) []api.Label {
	var out []api.Label
	for i := 0; i < len(pairs); i += 2 {
		out = append(out, api.Label{Name: pairs[i], Value: pairs[i+1]})
	}
	return out
}

// long is a text of so many bytes.
func long(n int) string { return strings.Repeat("q", n) }

// signOf is how each way is written.
var signOf = map[int]string{Equal: "=", NotEqual: "!=", Like: "=~", NotLike: "!~"}

// opposite is each way's other one.
var opposite = map[int]int{Equal: NotEqual, NotEqual: Equal, Like: NotLike, NotLike: Like}

// must is the selector of matchers that may be, handed in with room behind their end.
func must(t *testing.T, in ...Matcher) *Selector {
	t.Helper()
	room := append(slices.Clone(in), ask("room", 9, "room"))
	s, e := New(room[:len(in)]...)
	if e != api.OK || s == nil {
		t.Fatalf("New(%v) is %v, %d", in, s, e)
	}
	if !slices.Equal(room[:len(in)], in) || room[len(in)] != ask("room", 9, "room") {
		t.Errorf("New(%v) made them %v", in, room)
	}
	return s
}

// checkMatch asserts whether a selector means labels, which are as they were then.
func checkMatch(t *testing.T, s *Selector, in []api.Label, want bool) {
	t.Helper()
	room := append(slices.Clone(in), api.Label{Name: "room", Value: "room"})
	if got := s.Match(room[:len(in)]); got != want {
		t.Errorf("%s of %q is %t", s.Print(), in, got)
	}
	if !slices.Equal(room[:len(in)], in) || room[len(in)].Name != "room" {
		t.Errorf("Match of %q made them %q", in, room)
	}
}

// is asserts which labels matchers mean, and which they don't.
func is(t *testing.T, in []Matcher, all, not [][]api.Label) {
	t.Helper()
	s := must(t, in...)
	for _, one := range all {
		checkMatch(t, s, one, true)
	}
	for _, one := range not {
		checkMatch(t, s, one, false)
	}
}

// one asserts of which values of the label a one matcher holds.
func one(t *testing.T, op int, value string, all, not []string) {
	t.Helper()
	s := must(t, ask("a", op, value))
	for _, v := range all {
		checkMatch(t, s, l("a", v), true)
	}
	for _, v := range not {
		checkMatch(t, s, l("a", v), false)
	}
}

// checkNew asserts what New says, and that beside an error there is nothing.
func checkNew(t *testing.T, want api.Errno, in ...Matcher) {
	t.Helper()
	s, e := New(in...)
	if e != want || (s == nil) != (e != api.OK) {
		t.Errorf("New(%v) is %v, %d; want %d", in, s, e, want)
	}
	if e == api.OK && !slices.Equal(s.Matchers(), in) {
		t.Errorf("New(%v) has %v", in, s.Matchers())
	}
}

// checkParse asserts that a text is read as matchers.
func checkParse(t *testing.T, text string, want ...Matcher) {
	t.Helper()
	s, e := Parse(text)
	if e != api.OK || s == nil || !slices.Equal(s.Matchers(), want) || s.Print() != text {
		t.Errorf("Parse(%q) is %v, %d; want %v", text, s.Matchers(), e, want)
	}
}

// wrong asserts that a text is refused, and for what.
func wrong(t *testing.T, text string, want api.Errno) {
	t.Helper()
	if s, e := Parse(text); s != nil || e != want {
		t.Errorf("Parse(%q) is %q, %d; want %d", text, s.Print(), e, want)
	}
}

// refused asserts that a text is none, where its form and a name in it may be told to be wrong alike.
func refused(t *testing.T, text string) {
	t.Helper()
	if s, e := Parse(text); s != nil || e != api.ErrForm && e != api.ErrLabel {
		t.Errorf("Parse(%q) is %q, %d", text, s.Print(), e)
	}
}

// printed asserts how matchers are written, and that what is written is read as it was.
func printed(t *testing.T, text string, in ...Matcher) {
	t.Helper()
	if got := must(t, in...).Print(); got != text {
		t.Errorf("%v is printed %s; want %s", in, got, text)
	}
	checkParse(t, text, in...)
}

// P12.1: what a selector means

func TestExample(t *testing.T) {
	s, e := Parse(`{a="x",b=~"y.*"}`)
	if e != api.OK {
		t.Fatal(e)
	}
	checkMatch(t, s, l("a", "x", "b", "yz"), true)
	checkMatch(t, s, l("a", "x"), false)
	is(t, some(ask("a", Equal, "x"), ask("b", Like, "y.*")),
		[][]api.Label{l("a", "x", "b", "y"), l("a", "x", "b", "yz"), l("a", "x", "b", "yz", "c", "z")},
		[][]api.Label{nil, l("a", "x"), l("b", "yz"), l("a", "x", "b", "zy"), l("a", "xx", "b", "yz"), l("a", "yz", "b", "x")})
}

func TestOpsAreNumbered(t *testing.T) {
	if got := []int{Equal, NotEqual, Like, NotLike}; !slices.Equal(got, []int{0, 1, 2, 3}) {
		t.Errorf("they are %v", got)
	}
}

func TestNoMatcher(t *testing.T) {
	is(t, nil, [][]api.Label{nil, {}, l("a", "x"), l("a", "x", "b", "y")}, nil)
	s := must(t)
	if len(s.Matchers()) != 0 || s.Print() != "{}" {
		t.Errorf("it is %v, %s", s.Matchers(), s.Print())
	}
	checkNew(t, api.OK)
	checkNew(t, api.OK, []Matcher{}...)
	checkParse(t, "{}")
	if s, _ := Parse("{}"); !s.Match(nil) || !s.Match(l("a", "x")) {
		t.Error("{} doesn't mean all")
	}
}

func TestWaysTold(t *testing.T) {
	// Against a value that is it, such as aren't, an empty one, and a name that isn't there.
	others := []string{"", "X", "xx", "x ", " x", "y", "xy", "yx", "\n", "x\n"}
	one(t, Equal, "x", []string{"x"}, others)
	one(t, NotEqual, "x", others, []string{"x"})
	one(t, Like, "x", []string{"x"}, others)
	one(t, NotLike, "x", others, []string{"x"})
	for op, there := range map[int]bool{Equal: false, NotEqual: true, Like: false, NotLike: true} {
		s := must(t, ask("a", op, "x"))
		for _, without := range [][]api.Label{nil, {}, l("b", "x"), l("A", "x"), l("aa", "x"), l("b", "x", "c", "x"), l("x", "a")} {
			checkMatch(t, s, without, there)
		}
	}
	// What stands for more in a pattern is itself in a value.
	one(t, Equal, "x.*", []string{"x.*"}, []string{"x", "xy", "x.", "xx"})
	one(t, NotEqual, "x.*", []string{"x", "xy", "x."}, []string{"x.*"})
	one(t, Equal, "(", []string{"("}, []string{"", `\(`})
	one(t, NotEqual, "a|b", []string{"a", "b"}, []string{"a|b"})
	one(t, Like, "x.*", []string{"x", "xy", "x.", "x.*", "x\n\xff"}, []string{"", "y", "yx"})
	one(t, NotLike, "x.*", []string{"", "y", "yx"}, []string{"x", "xy", "x.", "x.*"})
	one(t, Like, `x\.\*`, []string{"x.*"}, []string{"x", "xy", `x\.\*`, ""})
	one(t, NotLike, `x\.\*`, []string{"x", "xy", `x\.\*`, ""}, []string{"x.*"})
	one(t, Like, "a|b|[x-z]+", []string{"a", "b", "xyz"}, []string{"", "ab", "ax"})
	one(t, NotLike, "a|b|[x-z]+", []string{"", "ab", "ax"}, []string{"a", "b", "xyz"})
}

func TestEmptyAsked(t *testing.T) {
	one(t, Equal, "", []string{""}, []string{"x", " ", "\n", "\x00"})
	one(t, NotEqual, "", []string{"x", " ", "\n", "\x00"}, []string{""})
	one(t, Like, "", []string{""}, []string{"x", " ", "\n", "\x00"})
	one(t, NotLike, "", []string{"x", " ", "\n", "\x00"}, []string{""})
	for op, there := range map[int]bool{Equal: true, NotEqual: false, Like: true, NotLike: false} {
		s := must(t, ask("b", op, ""))
		checkMatch(t, s, nil, there)
		checkMatch(t, s, l("a", "x"), there)
		checkMatch(t, s, l("a", "x", "c", "y"), there)
		checkMatch(t, s, l("a", "x", "b", "y"), !there)
	}
	// Patterns that may be of nothing, by a name that isn't there.
	for pattern, empty := range map[string]bool{".*": true, "x*": true, "x?": true, "x|": true, "()": true, "x": false, ".": false, "x+": false, "x|y": false, "[^x]": false} {
		checkMatch(t, must(t, ask("b", Like, pattern)), l("a", "x"), empty)
		checkMatch(t, must(t, ask("b", NotLike, pattern)), l("a", "x"), !empty)
	}
}

func TestPatternIsAllOfTheValue(t *testing.T) {
	for _, pattern := range []string{"bc", "b(c|d)", "b.", "[b][c]", `\b\c`} {
		all, parts := []string{"bc"}, []string{"abc", "bca", "abca", "bcbc", "b", "c", "", "bc\n", "\nbc"}
		one(t, Like, pattern, all, parts)
		one(t, NotLike, pattern, parts, all)
	}
	one(t, Like, ".*bc", []string{"bc", "abc", "bcbc"}, []string{"bca"})
	one(t, Like, "bc.*", []string{"bc", "bca", "bcbc"}, []string{"abc"})
	one(t, Like, ".*bc.*", []string{"bc", "abc", "bca", "abca"}, []string{"", "b", "acb"})
	// Beginnings that are shorter or longer.
	one(t, Like, "a|ab", []string{"a", "ab"}, []string{"", "abb", "b"})
	one(t, Like, "ab|a", []string{"a", "ab"}, []string{"", "aba"})
}

func TestTwoOfOneName(t *testing.T) {
	// The same one twice.
	is(t, some(ask("a", Equal, "x"), ask("a", Equal, "x")), [][]api.Label{l("a", "x")}, [][]api.Label{nil, l("a", "y")})
	is(t, some(ask("a", NotEqual, "x"), ask("a", NotEqual, "x")), [][]api.Label{nil, l("a", "y")}, [][]api.Label{l("a", "x")})
	is(t, some(ask("a", Like, "x+"), ask("a", Like, "x+")), [][]api.Label{l("a", "xx")}, [][]api.Label{nil, l("a", "y")})
	// Two that contradict.
	every := [][]api.Label{nil, l("a", "x"), l("a", "y"), l("a", ""), l("b", "x"), l("a", "xy")}
	is(t, some(ask("a", Equal, "x"), ask("a", Equal, "y")), nil, every)
	is(t, some(ask("a", Equal, "x"), ask("a", NotEqual, "x")), nil, every)
	is(t, some(ask("a", NotLike, "x.*"), ask("a", Like, "x.*")), nil, every)
	is(t, some(ask("a", Equal, ""), ask("a", NotEqual, "")), nil, every)
	// Two that both can hold, whichever is ahead.
	for _, in := range [][]Matcher{
		{ask("a", Like, "x.*"), ask("a", NotEqual, "xy")}, {ask("a", NotEqual, "xy"), ask("a", Like, "x.*")},
	} {
		is(t, in, [][]api.Label{l("a", "x"), l("a", "xz")}, [][]api.Label{nil, l("a", "xy"), l("a", "y"), l("b", "x")})
	}
	is(t, some(ask("a", NotEqual, "x"), ask("a", NotEqual, "y"), ask("a", NotEqual, "")), [][]api.Label{l("a", "z")}, [][]api.Label{nil, l("a", "x"), l("a", "y")})
}

func TestNamesThatBeginAlike(t *testing.T) {
	is(t, some(ask("a", Equal, "x")), [][]api.Label{l("a", "x", "aa", "y"), l("A", "y", "a", "x", "ab", "y")}, [][]api.Label{l("aa", "x"), l("a", "y", "aa", "x"), l("A", "x"), l("a_", "x")})
	is(t, some(ask("aa", Equal, "x")), [][]api.Label{l("a", "y", "aa", "x"), l("aa", "x", "aaa", "y")}, [][]api.Label{l("a", "x"), l("a", "x", "aaa", "x"), l("a", "x", "aa", "y")})
	is(t, some(ask("a", Equal, "x"), ask("aa", NotEqual, "x")), [][]api.Label{l("a", "x"), l("a", "x", "aa", "y")}, [][]api.Label{l("aa", "y"), l("a", "x", "aa", "x")})
	is(t, some(ask(long(64), Equal, "x")), [][]api.Label{l(long(64), "x")}, [][]api.Label{l(long(63), "x"), nil})
}

func TestMoreLabelsThanAreAsked(t *testing.T) {
	var all []api.Label
	for i := range 16 {
		n := strconv.Itoa(10 + i)
		all = append(all, api.Label{Name: "n" + n, Value: "v" + n})
	}
	for i := range 16 {
		n := strconv.Itoa(10 + i)
		for op, there := range map[int]bool{Equal: true, NotEqual: false, Like: true, NotLike: false} {
			s := must(t, ask("n"+n, op, "v"+n))
			checkMatch(t, s, all, there)
			checkMatch(t, s, slices.Concat(all[:i], all[i+1:]), !there)
			checkMatch(t, s, all[i:i+1], there)
		}
	}
	is(t, some(ask("z", Equal, "")), [][]api.Label{all}, nil)
}

func TestEachOfManyMustHold(t *testing.T) {
	var in []Matcher
	var labels []api.Label
	for i := range 16 {
		n := strconv.Itoa(10 + i)
		in = append(in, ask("n"+n, i%4, []string{"x", "y", "x+", "y+"}[i%4]))
		labels = append(labels, api.Label{Name: "n" + n, Value: "x"})
	}
	turned := slices.Clone(in)
	slices.Reverse(turned)
	for _, asked := range [][]Matcher{in, turned, in[:15], in[3:9], in[:1], in[1:2]} {
		checkNew(t, api.OK, asked...)
		s := must(t, asked...)
		checkMatch(t, s, labels, true)
		for i := range labels {
			other := slices.Clone(labels)
			other[i].Value = "y"
			want := !slices.ContainsFunc(asked, func(m Matcher) bool { return m.Name == other[i].Name })
			checkMatch(t, s, other, want)
		}
	}
}

// pattern is the library's pattern that is all of a text.
func pattern(s string) *regexp.Regexp { return regexp.MustCompile(`(?s)\A(?:` + s + `)\z`) }

// holds says of a matcher whether it holds of labels, told plainly.
func holds(m Matcher, have map[string]struct{ v string }) bool {
	value := have[m.Name].v
	switch m.Op {
	case Equal:
		return value == m.Value
	case NotEqual:
		return value != m.Value
	case Like:
		return pattern(m.Value).MatchString(value)
	}
	return !pattern(m.Value).MatchString(value)
}

func TestAllPairs(t *testing.T) {
	var asked []Matcher
	for _, name := range []string{"a", "b"} {
		for op := range 4 {
			for _, value := range []string{"", "x", "y", "xy", "x.*", "x|y", ".", "x*", "(x|y)+"} {
				asked = append(asked, ask(name, op, value))
			}
		}
	}
	var labels [][]api.Label
	// By labels, then by matchers.
	var want [][]bool
	for _, a := range []string{"", "x", "y", "xy", "xx", "."} {
		for _, b := range []string{"", "x", "yx", "y", "z"} {
			var one []api.Label
			have := map[string]struct{ v string }{}
			for _, pair := range l("a", a, "b", b, "c", "x") {
				if pair.Value != "" {
					one = append(one, pair)
					have[pair.Name] = struct{ v string }{pair.Value}
				}
			}
			var hold []bool
			for _, m := range asked {
				hold = append(hold, holds(m, have))
			}
			labels, want = append(labels, one), append(want, hold)
		}
	}
	for i, m := range asked {
		alone, other := must(t, m), must(t, ask(m.Name, opposite[m.Op], m.Value))
		for n := range labels {
			checkMatch(t, alone, labels[n], want[n][i])
			checkMatch(t, other, labels[n], !want[n][i])
		}
		for k, with := range asked {
			both := must(t, m, with)
			for n := range labels {
				if both.Match(labels[n]) != (want[n][i] && want[n][k]) {
					t.Errorf("%s of %q is %t", both.Print(), labels[n], !(want[n][i] && want[n][k]))
				}
			}
		}
	}
}

func TestNil(t *testing.T) {
	var s *Selector
	checkMatch(t, s, nil, false)
	checkMatch(t, s, l("a", "x"), false)
	if len(s.Matchers()) != 0 || s.Print() != "{}" {
		t.Errorf("a nil one is %v, %s", s.Matchers(), s.Print())
	}
	// One that no call made only ends.
	(&Selector{}).Match(l("a", "x"))
	(&Selector{}).Matchers()
	(&Selector{}).Print()
}

// P12.1: what may not be

func TestNewErrors(t *testing.T) {
	// An Op that is none.
	for _, op := range []int{-1, 4, -2, 5, 100, -1 << 63, 1<<63 - 1, 1 << 32, -1 << 32} {
		checkNew(t, api.ErrArg, ask("a", op, "x"))
	}
	for op := range 4 {
		checkNew(t, api.OK, ask("a", op, "x"))
		// A name that is none, and such as are.
		for _, name := range []string{"", "1", "1a", "9_", "a-b", "a b", " a", "a ", "ä", "a\x00", "a\n", "a=", "a!", "~a", "a,b", `"a"`, "{", "a.b", "a/", "a:", "@", "[", "`", long(65), long(64) + " "} {
			checkNew(t, api.ErrLabel, ask(name, op, "x"))
		}
		for _, name := range []string{"a", "_", "Z", "z9", "A", "z", "a0", "_1", "__", long(64)} {
			checkNew(t, api.OK, ask(name, op, "x"))
		}
		// A value of none, of all the bytes that one may have, and of one more.
		checkNew(t, api.OK, ask("a", op, ""))
		checkNew(t, api.OK, ask("a", op, long(63)))
		checkNew(t, api.OK, ask("a", op, long(64)))
		checkNew(t, api.ErrLabel, ask("a", op, long(65)))
		checkNew(t, api.ErrLabel, ask("a", op, long(1000)))
		checkNew(t, api.ErrLabel, ask("a", op, strings.Repeat("ä", 33)))
	}
	for _, op := range []int{Equal, Like} {
		one(t, op, long(64), []string{long(64)}, []string{long(63), long(65), ""})
		one(t, opposite[op], long(64), []string{long(63), long(65), ""}, []string{long(64)})
	}
	// A pattern that is none: only where one is asked.
	for _, none := range []string{"(", ")", "*", "a(", "[", "[]", "[b-a]", `\`, "{", "^", "$", "a|*", "(a))"} {
		checkNew(t, api.OK, ask("a", Equal, none))
		checkNew(t, api.OK, ask("a", NotEqual, none))
		checkNew(t, api.ErrRegex, ask("a", Like, none))
		checkNew(t, api.ErrRegex, ask("a", NotLike, none))
	}
	// One that is too deep.
	deep := func(n int) string { return strings.Repeat("(", n) + "a" + strings.Repeat(")", n) }
	for _, op := range []int{Like, NotLike} {
		checkNew(t, api.OK, ask("a", op, deep(7)))
		checkNew(t, api.ErrLimit, ask("a", op, deep(8)))
		checkNew(t, api.ErrLimit, ask("a", op, deep(8)+")"))
		checkNew(t, api.ErrRegex, ask("a", op, ")"+deep(8)))
	}
	checkNew(t, api.OK, ask("a", Equal, deep(8)))
}

func TestNewErrorsInOrder(t *testing.T) {
	good, noOp, noName, tooLong := ask("a", Equal, "x"), ask("a", 4, "x"), ask("", Equal, "x"), ask("a", Equal, long(65))
	noPattern, tooDeep := ask("a", Like, "("), ask("a", NotLike, strings.Repeat("(", 8))
	errs := map[Matcher]api.Errno{noOp: api.ErrArg, noName: api.ErrLabel, tooLong: api.ErrLabel, noPattern: api.ErrRegex, tooDeep: api.ErrLimit}
	// Matcher by matcher.
	for first, want := range errs {
		checkNew(t, want, first)
		checkNew(t, want, first, good)
		checkNew(t, want, good, good, first)
		for second := range errs {
			checkNew(t, want, first, second)
			checkNew(t, want, good, first, good, second)
		}
	}
	// Of one matcher.
	checkNew(t, api.ErrArg, ask("", -1, "x"))
	checkNew(t, api.ErrArg, ask("1", 4, long(65)))
	checkNew(t, api.ErrArg, ask("a", 4, long(65)))
	checkNew(t, api.ErrArg, ask("a", 4, "("))
	checkNew(t, api.ErrArg, ask("", -1, "("))
	checkNew(t, api.ErrLabel, ask("", Like, "("))
	checkNew(t, api.ErrLabel, ask("1", NotLike, strings.Repeat("(", 8)))
	checkNew(t, api.ErrLabel, ask("a", Like, strings.Repeat("(", 65)))
	checkNew(t, api.ErrLabel, ask("a", NotLike, "*"+long(64)))
	// How many they are is told ahead of all.
	for bad := range errs {
		many := slices.Repeat(some(good), 17)
		checkNew(t, api.ErrLimit, many...)
		for i := range many {
			many[i] = bad
			checkNew(t, api.ErrLimit, many...)
			many[i] = good
		}
		many[15] = bad
		checkNew(t, errs[bad], many[:16]...)
		checkNew(t, api.OK, many[:15]...)
	}
	checkNew(t, api.OK, slices.Repeat(some(good), 16)...)
	checkNew(t, api.ErrLimit, slices.Repeat(some(good), 1000)...)
}

// P12.1, P12.2: texts

func TestPrintTold(t *testing.T) {
	printed(t, `{}`)
	printed(t, `{a="x"}`, ask("a", Equal, "x"))
	printed(t, `{a!="x"}`, ask("a", NotEqual, "x"))
	printed(t, `{a=~"x"}`, ask("a", Like, "x"))
	printed(t, `{a!~"x"}`, ask("a", NotLike, "x"))
	printed(t, `{a="",b!="",c=~"",d!~""}`, ask("a", Equal, ""), ask("b", NotEqual, ""), ask("c", Like, ""), ask("d", NotLike, ""))
	printed(t, `{a="x",b=~"y.*"}`, ask("a", Equal, "x"), ask("b", Like, "y.*"))
	// As handed in: neither by their names, nor once each.
	printed(t, `{b="x",a="x",b="x",a!="y",a=~"x|y"}`, ask("b", Equal, "x"), ask("a", Equal, "x"), ask("b", Equal, "x"), ask("a", NotEqual, "y"), ask("a", Like, "x|y"))
	printed(t, `{_="1",A1!="2",`+long(64)+`="`+long(64)+`"}`, ask("_", Equal, "1"), ask("A1", NotEqual, "2"), ask(long(64), Equal, long(64)))
	printed(t, `{a=~"`+long(64)+`"}`, ask("a", Like, long(64)))
	for op := range 4 {
		for value, quoted := range map[string]string{
			`"`: `\"`, "\n": `\n`, ",": ",", "=": "=", "!": "!", "~": "~", " ": " ", "'": "'", "": "", "\xff\x80": "\xff\x80", "ä€": "ä€", "\x00\t\r": "\x00\t\r",
			`a"b`: `a\"b`, "a\nb": `a\nb`, "a,b": "a,b", "=~": "=~", "!=": "!=", `x",b="y`: `x\",b=\"y`, `",`: `\",`, strings.Repeat("\n", 64): strings.Repeat(`\n`, 64),
		} {
			printed(t, `{a`+signOf[op]+`"`+quoted+`"}`, ask("a", op, value))
			printed(t, `{a`+signOf[op]+`"`+quoted+`",b="y"}`, ask("a", op, value), ask("b", Equal, "y"))
		}
		printed(t, `{a`+signOf[op]+`"\\\\"}`, ask("a", op, `\\`))
		printed(t, `{a`+signOf[op]+`"\\n"}`, ask("a", op, `\n`))
		printed(t, `{a`+signOf[op]+`"x\\\"\\\n"}`, ask("a", op, "x\\\"\\\n"))
		printed(t, `{a`+signOf[op]+`"\\{\\}"}`, ask("a", op, `\{\}`))
	}
	// What may be no pattern.
	for _, op := range []int{Equal, NotEqual} {
		for value, quoted := range map[string]string{`\`: `\\`, "{": "{", "}": "}", `"}`: `\"}`, `{a="x"}`: `{a=\"x\"}`, "(": "(", "*": "*"} {
			printed(t, `{a`+signOf[op]+`"`+quoted+`"}`, ask("a", op, value))
			printed(t, `{a`+signOf[op]+`"`+quoted+`",b=~"y"}`, ask("a", op, value), ask("b", Like, "y"))
		}
	}
}

func TestWhatIsReadMeansTheSame(t *testing.T) {
	for text, values := range map[string][2][]string{
		`{a=~"x\\.y"}`:     {{"x.y"}, {"xzy", `x\.y`, "xy"}},
		`{a=~"\\\\"}`:      {{`\`}, {`\\`, ""}},
		`{a=~"[\"\\]\n]"}`: {{`"`, "]", "\n"}, {`\`, "n", ""}},
		`{a!~"x\\*"}`:      {{"x", "xx", ""}, {"x*"}},
		`{a="\\n"}`:        {{`\n`}, {"\n", "n"}},
		`{a="\n"}`:         {{"\n"}, {`\n`, "n"}},
		`{a!="\""}`:        {{"", `\"`}, {`"`}},
		"{a=\"\xff\"}":     {{"\xff"}, {"ÿ", ""}},
		"{a=~\"\xff|.\"}":  {{"\xff", "\x80"}, {"ÿ", ""}},
	} {
		s, e := Parse(text)
		if e != api.OK || s.Print() != text {
			t.Errorf("Parse(%q) is %q, %d", text, s.Print(), e)
		}
		for i, want := range []bool{true, false} {
			for _, v := range values[i] {
				checkMatch(t, s, l("a", v), want)
			}
		}
	}
}

func TestParseWrongForm(t *testing.T) {
	for _, s := range []string{
		// Without its braces.
		"", "{", "}", "a", `a="x"`, `a="x"}`, `{a="x"`, "[]", "()", "}{", `"`, `""`, `(a="x")`, `[a="x"]`, "{]",
		// The end is missing.
		`{a="x",`, `{a="x`, `{a="`, `{a=`, `{a!=`, `{a=~`, `{a!`, `{a`, `{a="x",b`, `{a="x",b=~"y"`,
		// Text behind the end.
		`{}z`, `{} `, "{}\n", `{}{}`, `{}}`, "{}\x00", `{},`, `{a="x"}z`, `{a="x"} `, "{a=\"x\"}\n", `{a="x"}}`, `{a="x"},`, `{a="x"}{}`, `{a="x"}"`, `{a="x"},b="y"}`,
		// Blanks.
		" {}", " ", `{ }`, "\n{}", ` {a="x"}`, `{a= "x"}`, `{a="x" }`, `{a="x" ,b="y"}`, `{a! ="x"}`, `{a= ~"x"}`, `{a!= "x"}`, `{a=~ "x"}`, "{a=\n\"x\"}", "{\t}",
		// A comma too many, or too few.
		`{,}`, `{,,}`, `{a="x",}`, `{a="x",,}`, `{a="x"b="y"}`, `{a="x";b="y"}`, `{a="x"b!="y"}`, `{a="x""y"}`, `{a="x"=b="y"}`, `,{}`, `{},{}`,
		// A sign that is none, or none at all.
		`{a=="x"}`, `{a!"x"}`, `{a~"x"}`, `{a"x"}`, `{a}`, `{"x"}`, `{a!!"x"}`, `{a=!"x"}`, `{a!==~"x"}`, `{a!=="x"}`, `{a=~~"x"}`, `{a!=~"x"}`, `{a!~~"x"}`, `{a=~="x"}`, `{a!~="x"}`, `{a~~"x"}`, `{a<"x"}`, `{a,b}`, `{a="x",b}`, `{a="x",b"y"}`, `{a="x",b=="y"}`, `{a="x",b!"y"}`,
		// No quotes, or such as aren't closed.
		`{a=x}`, `{a=}`, `{a!=}`, `{a=~}`, `{a='x'}`, `{a="x}`, `{a=x"}`, `{a=x"y"}`, `{a="x"y}`, `{a=""x}`, `{a="x\"}`, `{a="}`, `{a="\"}`, `{a="\`, `{a="x\\\"}`,
		// A value that isn't written as it is printed.
		"{a=\"\n\"}", "{a=\"x\ny\"}", "{a=\"\\\n\"}", `{a="\x"}`, `{a="\t"}`, `{a="\~"}`, `{a="\'"}`, `{a="\x41"}`, `{a="x\ "}`, `{a=~"x\.y"}`, `{a=~"\*"}`,
	} {
		wrong(t, s, api.ErrForm)
	}
}

func TestParseWhatIsNoName(t *testing.T) {
	// It isn't said whether a byte that is no name's is of the form, or of the name.
	for _, s := range []string{
		`{ a="x"}`, `{a ="x"}`, `{a !="x"}`, `{a="x", b="y"}`, `{a = "x"}`, "{\na=\"x\"}", "{a\t=~\"x\"}", // blanks
		`{,a="x"}`, `{a="x",,b="y"}`, `{a,="x"}`, `{a,b="x"}`, // commas
		`{a~="x"}`, `{~a="x"}`, `{a~!="x"}`, `{a!b="x"}`, `{a!b!="x"}`, `{a~b="x"}`, `{a<="x"}`, `{a:="x"}`, `{a!!="x"}`, `{a~=~"x"}`, `{a="x",b~="y"}`, // signs
		`{{a="x"}`, `{}="x"}`, `{}a="x"}`, `{a}="x"}`, `{a{="x"}`, `{"a"="x"}`, // braces and quotes
		`{="x"}`, `{!="x"}`, `{=~"x"}`, `{!~"x"}`, `{a="x",="y"}`, // none
		`{a-b="x"}`, `{ä="x"}`, `{a.b=~"x"}`, "{a\x00!~\"x\"}", "{\xff=\"x\"}", `{a\="x"}`, // other bytes
	} {
		refused(t, s)
		// Whichever: how it is written else is told first.
		wrong(t, s+" ", api.ErrForm)
		wrong(t, s[:len(s)-1], api.ErrForm)
	}
}

func TestParseWrongMatchers(t *testing.T) {
	many := func(n int) string { return strings.Repeat(`,a="x"`, n)[1:] }
	for s, want := range map[string]api.Errno{
		`{1a="x"}`: api.ErrLabel, `{0="x"}`: api.ErrLabel, `{a="x",9!~"y"}`: api.ErrLabel, `{` + long(65) + `="x"}`: api.ErrLabel,
		`{a="` + long(65) + `"}`: api.ErrLabel, `{a!="` + long(65) + `"}`: api.ErrLabel, `{a=~"` + long(65) + `"}`: api.ErrLabel, `{a!~"` + long(65) + `"}`: api.ErrLabel,
		`{a="` + strings.Repeat(`\n`, 65) + `"}`: api.ErrLabel, `{a="x",b="` + long(65) + `"}`: api.ErrLabel,
		`{a=~"("}`: api.ErrRegex, `{a!~"("}`: api.ErrRegex, `{a="(",b=~")"}`: api.ErrRegex, `{a=~"*"}`: api.ErrRegex, `{a=~"\\"}`: api.ErrRegex, `{a=~"}"}`: api.ErrRegex,
		`{a=~"((((((((a))))))))"}`: api.ErrLimit, `{a!~"(((((((("}`: api.ErrLimit,
		`{` + many(17) + `}`: api.ErrLimit, `{` + many(18) + `}`: api.ErrLimit, `{` + many(500) + `}`: api.ErrLimit,
		// The first that is met.
		`{1a="x",b=~"("}`: api.ErrLabel, `{b=~"(",1a="x"}`: api.ErrRegex, `{b=~"((((((((",1a="x"}`: api.ErrLimit, `{1=~"("}`: api.ErrLabel,
		`{1a="x",` + many(16) + `}`: api.ErrLimit, `{` + many(16) + `,a=~"("}`: api.ErrLimit, `{` + many(15) + `,a=~"("}`: api.ErrRegex,
	} {
		wrong(t, s, want)
		// How it is written is told ahead of all.
		wrong(t, s+" ", api.ErrForm)
		wrong(t, s[:len(s)-1], api.ErrForm)
		wrong(t, s[:len(s)-1]+",}", api.ErrForm)
		wrong(t, s[:len(s)-1]+`,a=="x"}`, api.ErrForm)
		wrong(t, s[1:], api.ErrForm)
	}
	checkParse(t, `{`+many(16)+`}`, slices.Repeat(some(ask("a", Equal, "x")), 16)...)
	wrong(t, `{`+many(17)+`,}`, api.ErrForm)
	checkParse(t, `{a="(",b!=")"}`, ask("a", Equal, "("), ask("b", NotEqual, ")"))
	checkParse(t, `{a=~"(((((((a)))))))"}`, ask("a", Like, "(((((((a)))))))"))
}

// onePart is a matcher as it is written, and all are a whole text of them.
const onePart = `([A-Za-z_][0-9A-Za-z_]*)(=~|!~|!=|=)"((?:[^"\\\n]|\\[n"\\])*)"`

var (
	part = regexp.MustCompile(onePart)
	all  = regexp.MustCompile(`\A\{(?:` + onePart + `(?:,` + onePart + `)*)?\}\z`)
)

// told are the matchers of a text that is written so.
func told(s string) []Matcher {
	var out []Matcher
	for _, m := range part.FindAllStringSubmatch(s, -1) {
		for op, sign := range signOf {
			if sign == m[2] {
				out = append(out, ask(m[1], op, strings.NewReplacer(`\n`, "\n", `\"`, `"`, `\\`, `\`).Replace(m[3])))
			}
		}
	}
	return out
}

// checkText asserts what is read of a text, and says whether it was read.
func checkText(t *testing.T, s string) bool {
	t.Helper()
	got, e := Parse(s)
	if !all.MatchString(s) {
		if got != nil || e != api.ErrForm && e != api.ErrLabel {
			t.Fatalf("Parse(%q) is %q, %d", s, got.Print(), e)
		}
		return false
	}
	want := told(s)
	_, wantE := New(want...)
	if e != wantE || (got == nil) != (e != api.OK) {
		t.Fatalf("Parse(%q) is %v, %d; want %d", s, got, e, wantE)
	}
	if e == api.OK && (!slices.Equal(got.Matchers(), want) || got.Print() != s) {
		t.Fatalf("Parse(%q) is %v; want %v", s, got.Matchers(), want)
	}
	return e == api.OK
}

// texts are all texts of some bytes, up to so many of them.
func texts(of string, most int) []string {
	out := []string{""}
	for from := 0; most > 0; most-- {
		end := len(out)
		for _, s := range out[from:end] {
			for i := range len(of) {
				out = append(out, s+of[i:i+1])
			}
		}
		from = end
	}
	return out
}

func TestParseAll(t *testing.T) {
	read := 0
	for _, s := range texts(`{}=~!,"a`, 6) {
		if checkText(t, s) {
			read++
		}
	}
	// Each place of a text: within it, ahead of it, behind it.
	for _, s := range texts("=!~,\"\\an {}\n", 4) {
		for _, text := range []string{`{a` + s + `"x"}`, `{a=` + s + `}`, `{a="` + s + `"}`, `{a=~"` + s + `"}`, `{a="x"` + s + `b="y"}`, `{a!="x"` + s, s + `a="x"}`} {
			if checkText(t, text) {
				read++
			}
		}
	}
	if read < 10000 {
		t.Errorf("only %d were read", read)
	}
}

// drawn is a matcher of any name, way and value; where a pattern is asked, one that is just a text, or a plain one.
func drawn(r *rand.Rand) Matcher {
	const first, others = "ab_Z", "ab_Z09"
	name := first[r.IntN(4):][:1]
	for range r.IntN(1 + r.IntN(6)) {
		name += others[r.IntN(6):][:1]
	}
	op := r.IntN(4)
	if op >= Like && r.IntN(2) == 0 {
		return ask(name, op, []string{"", "x", ".*", "x|y", "[^x]+", `\.|\\`, "(a|b)?", "[]\"\n]*", "x+y?"}[r.IntN(9)])
	}
	value := ""
	for range r.IntN(1 + r.IntN(33)) {
		if op >= Like {
			value += `\`
		}
		if r.IntN(2) == 0 {
			value += string([]byte{byte(r.Uint32())})
		} else {
			value += "\n\"\\an=!~,{} "[r.IntN(12):][:1]
		}
	}
	return ask(name, op, value)
}

func TestDrawn(t *testing.T) {
	r := rand.New(rand.NewPCG(12, 1))
	held := [2]int{}
	for range 20000 {
		var in []Matcher
		var labels []api.Label
		for range r.IntN(1 + r.IntN(17)) {
			m := drawn(r)
			in = append(in, m)
			if r.IntN(2) == 0 {
				labels = append(labels, api.Label{Name: m.Name, Value: []string{m.Value, "x", "y", ".", "x" + m.Value}[r.IntN(5)]})
			}
		}
		labels = slices.CompactFunc(labels, func(a, b api.Label) bool { return a.Name == b.Name })
		s := must(t, in...)
		again, e := Parse(s.Print())
		if e != api.OK || !slices.Equal(again.Matchers(), in) || !slices.Equal(s.Matchers(), in) || again.Print() != s.Print() {
			t.Fatalf("Parse(%q) is %v, %d; want %v", s.Print(), again.Matchers(), e, in)
		}
		want := true
		for _, m := range in {
			alone := must(t, m).Match(labels)
			if alone == must(t, ask(m.Name, opposite[m.Op], m.Value)).Match(labels) {
				t.Fatalf("%v and its opposite are both %t of %q", m, alone, labels)
			}
			want = want && alone
		}
		if s.Match(labels) != want || again.Match(labels) != want {
			t.Fatalf("%s of %q isn't %t", s.Print(), labels, want)
		}
		if want {
			held[1]++
		} else {
			held[0]++
		}
		// Changed at one place it is refused, or what it tells is printed just so.
		text := []byte(s.Print())
		text[r.IntN(len(text))] = "{}=!~,\"\\a\n0n "[r.IntN(13)]
		if other, e := Parse(string(text)); e == api.OK && other.Print() != string(text) || e != api.OK && other != nil {
			t.Fatalf("Parse(%q) is %q, %d", text, other.Print(), e)
		}
	}
	if held[0] < 1000 || held[1] < 1000 {
		t.Errorf("so many didn't hold, and held: %v", held)
	}
}

// R3: nothing is shared.
func TestNothingIsShared(t *testing.T) {
	in := some(ask("a", Equal, "x"), ask("b", Like, "y+"), ask("c", NotEqual, "z"))
	was := slices.Clone(in)
	const text = `{a="x",b=~"y+",c!="z"}`
	s, e := New(in...)
	if e != api.OK {
		t.Fatal(e)
	}
	same := func(what string) {
		t.Helper()
		if !slices.Equal(s.Matchers(), was) || s.Print() != text {
			t.Errorf("%s: it is %s", what, s.Print())
		}
		checkMatch(t, s, l("a", "x", "b", "yy"), true)
		checkMatch(t, s, l("a", "1", "b", "2"), false)
		checkMatch(t, s, l("a", "x", "b", "yy", "c", "z"), false)
	}
	same("made")
	for i := range in {
		in[i] = ask("d", NotLike, strconv.Itoa(i))
	}
	same("what was handed in is another")
	one, other := s.Matchers(), s.Matchers()
	for i := range one {
		one[i] = ask("e", NotLike, strconv.Itoa(i))
	}
	_ = append(one[:0], ask("f", Equal, "f"))
	_ = append(other, ask("g", Equal, "g"))
	same("what was handed out is another")
	if !slices.Equal(other, was) {
		t.Errorf("what was handed out is shared: %v", other)
	}
	for i, m := range in {
		if m != ask("d", NotLike, strconv.Itoa(i)) {
			t.Errorf("what was handed in became %v", in)
		}
	}
}

// R1, R5: whatever is handed in, each call ends, and answers the same again.
func TestWhatever(t *testing.T) {
	r := rand.New(rand.NewPCG(12, 2))
	word := func() string {
		b := make([]byte, r.IntN(6))
		for i := range b {
			if b[i] = byte(r.Uint32()); r.IntN(2) == 0 {
				b[i] = "ab_1(|)[]*+?.\\\"\n{}=~!,"[r.IntN(22)]
			}
		}
		if r.IntN(20) == 0 {
			return strings.Repeat(string(b), 100)
		}
		return string(b)
	}
	made, read := 0, 0
	for range 30000 {
		var in []Matcher
		var labels []api.Label
		for range r.IntN(1 + r.IntN(20)) {
			in = append(in, ask([]string{"a", "b", word()}[r.IntN(3)], r.IntN(7)-1, word()))
			labels = append(labels, api.Label{Name: word(), Value: word()})
		}
		s, e := New(in...)
		if again, other := New(in...); other != e || (again == nil) != (s == nil) || again.Match(labels) != s.Match(labels) || again.Print() != s.Print() {
			t.Fatalf("New(%v) isn't the same again", in)
		}
		if (s == nil) != (e != api.OK) {
			t.Fatalf("New(%v) is %v, %d", in, s, e)
		}
		if s != nil && len(in) > 0 {
			made++
		}
		text := "{" + []string{"a", "_1", word()}[r.IntN(3)] + []string{"=", "!=", "=~", "!~", word()}[r.IntN(5)] + `"` + word() + `"` + []string{"", word()}[r.IntN(2)] + "}"
		if s, e = Parse(text); (s == nil) != (e != api.OK) || s != nil && s.Print() != text {
			t.Fatalf("Parse(%q) is %v, %d", text, s, e)
		}
		if s != nil {
			read++
			s.Match(labels)
		}
		if s, e = Parse(word()); (s == nil) != (e != api.OK) {
			t.Fatalf("it is %v, %d", s, e)
		}
	}
	if made < 1000 || read < 1000 {
		t.Errorf("only %d were made, %d read", made, read)
	}
}

// What is handed in may be long.
func TestLong(t *testing.T) {
	s := must(t, ask("a", Like, "(x*)*(x|xx)*y"), ask("b", NotEqual, "x"))
	checkMatch(t, s, l("a", strings.Repeat("x", 1<<20)+"y"), true)
	checkMatch(t, s, l("a", strings.Repeat("x", 1<<20)+"z"), false)
	for _, text := range []string{strings.Repeat("{", 1<<20), "{" + strings.Repeat("a", 1<<20), "{" + strings.Repeat(`a="x",`, 1<<18) + "}", `{a="` + strings.Repeat(`\`, 1<<20), `{a="` + strings.Repeat(`\`, 1<<20+1) + `"}`} {
		wrong(t, text, api.ErrForm)
	}
	wrong(t, "{"+strings.Repeat(`a="x",`, 1<<18)+`a="x"}`, api.ErrLimit)
	wrong(t, "{"+strings.Repeat("a", 1<<20)+`="x"}`, api.ErrLabel)
	wrong(t, `{a="`+strings.Repeat("a", 1<<20)+`"}`, api.ErrLabel)
}
