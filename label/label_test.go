package label

import (
	"maps"
	"math/rand/v2"
	"pluvial/api"
	"regexp"
	"slices"
	"strconv"
	"strings"
	"testing"
)

// The tests hold the package against answers told one by one, against patterns that say what is written how, and against all short texts.

// x is a label.
func x(name, value string) api.Label { return api.Label{Name: name, Value: value} }

// l are labels by pairs: a name and a value.
func l(pairs ...string) []api.Label {
	var out []api.Label
	for i := 0; i < len(pairs); i += 2 {
		out = append(out, x(pairs[i], pairs[i+1]))
	}
	return out
}

// long is a text of so many bytes.
func long(n int) string { return strings.Repeat("q", n) }

// rising are so many labels, by rising names.
func rising(n int) []api.Label {
	var out []api.Label
	for i := range n {
		out = append(out, x("n"+strconv.Itoa(100+i), "v"+strconv.Itoa(i%3)))
	}
	return out
}

// kept asserts that labels and names that are handed in are as they were, with the room behind their ends.
func kept(t *testing.T, in []api.Label, names []string, do func()) {
	t.Helper()
	wasIn, wasNames := slices.Clone(in[:cap(in)]), slices.Clone(names[:cap(names)])
	do()
	if !slices.Equal(in[:cap(in)], wasIn) || !slices.Equal(names[:cap(names)], wasNames) {
		t.Errorf("%v, %v became %v, %v", wasIn, wasNames, in[:cap(in)], names[:cap(names)])
	}
}

func checkCheck(t *testing.T, what string, in []api.Label, want api.Errno) {
	t.Helper()
	kept(t, in, nil, func() {
		t.Helper()
		if e := Check(in); e != want {
			t.Errorf("%s: Check(%q) is %d; want %d", what, in, e, want)
		}
	})
}

func checkMake(t *testing.T, what string, in, want []api.Label, wantE api.Errno) {
	t.Helper()
	kept(t, in, nil, func() {
		t.Helper()
		if got, e := Make(in...); !slices.Equal(got, want) || e != wantE {
			t.Errorf("%s: Make(%q) is %q, %d; want %q, %d", what, in, got, e, want, wantE)
		}
	})
}

func checkGet(t *testing.T, in []api.Label, name, want string) {
	t.Helper()
	kept(t, in, nil, func() {
		t.Helper()
		if got := Get(in, name); got != want {
			t.Errorf("Get(%q, %q) is %q; want %q", in, name, got, want)
		}
	})
}

// checkCompare asserts how two stand to each other, in either order.
func checkCompare(t *testing.T, a, b []api.Label, want int) {
	t.Helper()
	kept(t, a, nil, func() {
		t.Helper()
		if got := Compare(a, b); got != want {
			t.Errorf("Compare(%q, %q) is %d; want %d", a, b, got, want)
		}
		if got := Compare(b, a); got != -want {
			t.Errorf("Compare(%q, %q) is %d; want %d", b, a, got, -want)
		}
	})
}

func checkBy(t *testing.T, in []api.Label, names []string, want []api.Label) {
	t.Helper()
	kept(t, in, names, func() {
		t.Helper()
		if got := By(in, names...); !slices.Equal(got, want) {
			t.Errorf("By(%q, %q) is %q; want %q", in, names, got, want)
		}
	})
}

func checkFrom(t *testing.T, s string, want []api.Label, wantE api.Errno) {
	t.Helper()
	if got, e := From(s); !slices.Equal(got, want) || e != wantE {
		t.Errorf("From(%q) is %q, %d; want %q, %d", s, got, e, want, wantE)
	}
}

func checkUnquote(t *testing.T, s, text, rest string, ok bool) {
	t.Helper()
	if gotText, gotRest, got := Unquote(s); gotText != text || gotRest != rest || got != ok {
		t.Errorf("Unquote(%q) is %q, %q, %t; want %q, %q, %t", s, gotText, gotRest, got, text, rest, ok)
	}
}

func checkParse(t *testing.T, s string, want []api.Label, wantE api.Errno) {
	t.Helper()
	if got, e := Parse(s); !slices.Equal(got, want) || e != wantE {
		t.Errorf("Parse(%q) is %q, %d; want %q, %d", s, got, e, want, wantE)
	}
}

// P10.1

func TestCheckHowMany(t *testing.T) {
	for n := range 20 {
		want := api.OK
		if n > 16 {
			want = api.ErrLimit
		}
		checkCheck(t, strconv.Itoa(n), rising(n), want)
	}
	checkCheck(t, "an empty list", []api.Label{}, api.OK)
	// That they are too many is told ahead of what else is wrong.
	checkCheck(t, "17 of one name", slices.Repeat(l("a", "x"), 17), api.ErrLimit)
	checkCheck(t, "17 of which none has a name", slices.Repeat(l("", ""), 17), api.ErrLimit)
	checkCheck(t, "1000", rising(800), api.ErrLimit)
	checkCheck(t, "16 of one name", slices.Repeat(l("a", "x"), 16), api.ErrLabel)
}

// names are texts that are names; noNames some that are none.
func names() []string {
	return []string{"a", "z", "A", "Z", "_", "__", "_0", "_9", "a0", "aB_9", "Z_", "n1n", long(63), long(64), "_" + strings.Repeat("0", 63)}
}

func noNames() []string {
	out := []string{"", "0", "9", "0a", "9a", "1_", long(65), long(66), long(1000), "0" + long(63), " ", "a ", " a", "a-b", "a.b", "a\n", "\na", "a\x00", "\x00", "ä", "aé", "a\xff", "µ", "a=", "a,b", `a"`, "{a", "a}", `a\`}
	for c := range 256 {
		if c != '_' && (c < '0' || c > '9') && (c < 'a' || c > 'z') && (c < 'A' || c > 'Z') {
			out = append(out, string([]byte{byte(c)}), string([]byte{'a', byte(c)}), string([]byte{byte(c), 'a'}), string([]byte{'a', byte(c), 'a'}))
		}
	}
	return out
}

func TestCheckNames(t *testing.T) {
	for _, name := range names() {
		checkCheck(t, "a name", l(name, "v"), api.OK)
	}
	for _, name := range noNames() {
		checkCheck(t, "no name", l(name, "v"), api.ErrLabel)
		checkCheck(t, "no name, behind", l("A", "v", name, "v"), api.ErrLabel)
	}
	letters := regexp.MustCompile(`^[A-Za-z_]$`)
	both := regexp.MustCompile(`^[A-Za-z_][0-9A-Za-z_]$`)
	for i := range 256 {
		first := string([]byte{byte(i)})
		if got := Check(l(first, "v")) == api.OK; got != letters.MatchString(first) {
			t.Errorf("%q is a name: %t", first, got)
		}
		for k := range 256 {
			two := string([]byte{byte(i), byte(k)})
			if got := Check(l(two, "v")) == api.OK; got != both.MatchString(two) {
				t.Errorf("%q is a name: %t", two, got)
			}
		}
	}
}

// values are texts that are values.
func values() []string {
	out := []string{"v", "\n", `"`, `\`, " ", "", "\x00", "\xff", "ä", "=", ",", "}", "{", `{a="x"}`, "a\nb\"c\\d", `\n`, `\"`, `\\`, "\r\t", `""`, "\\\n\"", "n", long(2), long(63), long(64), strings.Repeat("\n", 64), strings.Repeat(`"`, 64), strings.Repeat(`\`, 64), strings.Repeat("ä", 32)}
	out = slices.DeleteFunc(out, func(s string) bool { return s == "" })
	for c := range 256 {
		out = append(out, string([]byte{byte(c)}))
	}
	return out
}

func TestCheckValues(t *testing.T) {
	for _, value := range values() {
		checkCheck(t, "a value", l("a", value), api.OK)
	}
	for _, value := range []string{"", long(65), long(66), long(1000), strings.Repeat("ä", 33), strings.Repeat("\n", 65)} {
		checkCheck(t, "no value", l("a", value), api.ErrLabel)
		checkCheck(t, "no value, behind", l("a", "v", "b", value), api.ErrLabel)
		checkCheck(t, "no value, ahead", l("a", value, "b", "v"), api.ErrLabel)
	}
}

func TestCheckOrder(t *testing.T) {
	for _, in := range [][]api.Label{
		l("a", "x", "b", "y"), l("a", "y", "b", "x"), l("a", "x", "aa", "x"), l("a", "x", "a0", "x"), l("A", "x", "_", "x", "a", "x"),
		l("B", "x", "a", "x"), l("a0", "x", "aA", "x", "a_", "x", "aa", "x"), l("a10", "x", "a9", "x"), l("Z", "v", "_", "v"),
		l(long(63), "x", long(64), "x"),
	} {
		checkCheck(t, "rising", in, api.OK)
		back := slices.Clone(in)
		slices.Reverse(back)
		checkCheck(t, "going down", back, api.ErrLabel)
	}
	checkCheck(t, "names that stay", l("a", "x", "a", "y"), api.ErrLabel)
	checkCheck(t, "labels that stay", l("a", "x", "a", "x"), api.ErrLabel)
	checkCheck(t, "the last stays", l("a", "x", "b", "y", "b", "z"), api.ErrLabel)
	checkCheck(t, "the last goes down", l("a", "x", "c", "y", "b", "z"), api.ErrLabel)
	checkCheck(t, "back to the first", l("a", "x", "b", "y", "a", "z"), api.ErrLabel)
}

func TestMakeTold(t *testing.T) {
	checkMake(t, "none", nil, nil, api.OK)
	checkMake(t, "an empty list", []api.Label{}, nil, api.OK)
	checkMake(t, "one", l("a", "x"), l("a", "x"), api.OK)
	checkMake(t, "rising", l("a", "x", "b", "y"), l("a", "x", "b", "y"), api.OK)
	checkMake(t, "going down", l("b", "y", "a", "x"), l("a", "x", "b", "y"), api.OK)
	checkMake(t, "by names, not by values", l("b", "x", "a", "y", "c", "w"), l("a", "y", "b", "x", "c", "w"), api.OK)
	checkMake(t, "byte by byte", l("a", "1", "_", "2", "B", "3", "A9", "4", "A10", "5"), l("A10", "5", "A9", "4", "B", "3", "_", "2", "a", "1"), api.OK)
	// An empty value is none.
	checkMake(t, "an empty value", l("a", ""), nil, api.OK)
	checkMake(t, "empty values", l("b", "", "a", "x", "c", "", "b", ""), l("a", "x"), api.OK)
	checkMake(t, "an empty value of the same name", l("a", "x", "a", ""), l("a", "x"), api.OK)
	checkMake(t, "an empty value, ahead", l("a", "", "a", "x"), l("a", "x"), api.OK)
	checkMake(t, "an empty value of no name", l("", "", "1", "", long(65), "", "a", "x"), l("a", "x"), api.OK)
	checkMake(t, "no name", l("", "x"), nil, api.ErrLabel)
	checkMake(t, "no name, of two", l("b", "x", "1a", "x"), nil, api.ErrLabel)
	checkMake(t, "a value that is too long", l("b", "x", "a", long(65)), nil, api.ErrLabel)
	checkMake(t, "two of one name", l("a", "x", "a", "y"), nil, api.ErrLabel)
	checkMake(t, "two of one name, apart", l("a", "x", "b", "x", "a", "x"), nil, api.ErrLabel)
	checkMake(t, "one twice", l("a", "x", "a", "x"), nil, api.ErrLabel)
}

func TestMakeHowMany(t *testing.T) {
	for n := range 20 {
		in := rising(n)
		slices.Reverse(in)
		if n <= 16 {
			checkMake(t, strconv.Itoa(n), in, rising(n), api.OK)
		} else {
			checkMake(t, strconv.Itoa(n), in, nil, api.ErrLimit)
		}
		// Those without a value don't count.
		more := append(slices.Repeat(l("z", ""), 5), in...)
		if n <= 16 {
			checkMake(t, strconv.Itoa(n)+" and five empty ones", more, rising(n), api.OK)
		} else {
			checkMake(t, strconv.Itoa(n)+" and five empty ones", more, nil, api.ErrLimit)
		}
	}
	checkMake(t, "17 of one name", slices.Repeat(l("a", "x"), 17), nil, api.ErrLimit)
	checkMake(t, "16 of one name", slices.Repeat(l("a", "x"), 16), nil, api.ErrLabel)
}

func TestGetTold(t *testing.T) {
	in := l("a", "x", "b", "y", "aa", "z")
	checkGet(t, in, "a", "x")
	checkGet(t, in, "b", "y")
	checkGet(t, in, "aa", "z")
	checkGet(t, in, "c", "")
	checkGet(t, in, "", "")
	checkGet(t, in, "A", "")
	checkGet(t, in, "x", "")
	checkGet(t, nil, "a", "")
	checkGet(t, []api.Label{}, "", "")
	// Of those that may not be, too, the first one.
	checkGet(t, l("b", "1", "a", "2", "a", "3"), "a", "2")
	checkGet(t, l("a", "", "a", "3"), "a", "")
	checkGet(t, l("a", "x", "", "y"), "", "y")
}

func TestCompareTold(t *testing.T) {
	for _, c := range []struct {
		a, b []api.Label
		want int
	}{
		{nil, nil, 0},
		{nil, []api.Label{}, 0},
		{nil, l("a", "x"), -1},
		{l("a", "x"), l("a", "x"), 0},
		{l("a", "x"), l("a", "y"), -1},
		{l("a", "x"), l("b", "x"), -1},
		// The name goes ahead of the value.
		{l("a", "y"), l("b", "x"), -1},
		{l("A", "z"), l("a", "a"), -1},
		{l("a", "x"), l("aa", "a"), -1},
		{l("a", "x"), l("a", "xx"), -1},
		{l("a", "\x7f"), l("a", "\x80"), -1},
		{l("a", "\xff"), l("b", "\x00"), -1},
		// The first that differs says it, not how many they are.
		{l("a", "x", "b", "y"), l("a", "x"), 1},
		{l("a", "x", "b", "y"), l("a", "y"), -1},
		{l("a", "x", "b", "y"), l("b", "a"), -1},
		{l("a", "x", "b", "y"), l("a", "x", "c", "a"), -1},
		{l("a", "x", "b", "y"), l("a", "x", "b", "y"), 0},
		{l("a", "x", "b", "y"), l("a", "x", "b", "z"), -1},
		{l("a", "x", "b", "z"), l("a", "y", "b", "a"), -1},
		{l("a", "x", "b", "y", "c", "z"), l("a", "x", "b", "y"), 1},
		{rising(16), rising(16), 0},
		{rising(15), rising(16), -1},
	} {
		checkCompare(t, c.a, c.b, c.want)
	}
}

// all are all lists of at most so many labels of some names and values, in the order in which they are to stand.
func all(most int) [][]api.Label {
	if most == 0 {
		return [][]api.Label{nil}
	}
	out := [][]api.Label{nil}
	for _, name := range []string{"a", "ab", "b"} {
		for _, value := range []string{"x", "y"} {
			for _, behind := range all(most - 1) {
				out = append(out, append(l(name, value), behind...))
			}
		}
	}
	return out
}

func TestCompareAll(t *testing.T) {
	lists := all(3)
	if len(lists) != 1+6+36+216 {
		t.Fatal(len(lists))
	}
	for i, a := range lists {
		for k, b := range lists {
			want := 0
			if i < k {
				want = -1
			} else if i > k {
				want = 1
			}
			if got := Compare(a, b); got != want {
				t.Fatalf("Compare(%q, %q) is %d; want %d", a, b, got, want)
			}
		}
	}
}

func TestByTold(t *testing.T) {
	in := l("a", "x", "b", "y", "c", "z")
	for _, c := range []struct {
		names []string
		want  []api.Label
	}{
		{nil, nil},
		{[]string{}, nil},
		{[]string{"a"}, l("a", "x")},
		{[]string{"c"}, l("c", "z")},
		{[]string{"c", "a"}, l("a", "x", "c", "z")},
		{[]string{"a", "b", "c"}, in},
		{[]string{"c", "b", "a"}, in},
		{[]string{"a", "a", "a"}, l("a", "x")},
		{[]string{"d"}, nil},
		{[]string{"d", "", "x", "A", "b", "bb"}, l("b", "y")},
		{[]string{""}, nil},
	} {
		checkBy(t, in, c.names, c.want)
		checkBy(t, nil, c.names, nil)
	}
	// Those of one name all, as they stand.
	checkBy(t, l("b", "1", "a", "2", "b", "1", "", "3"), []string{"b", ""}, l("b", "1", "b", "1", "", "3"))
	checkBy(t, rising(16), []string{"n115", "n100"}, l("n100", "v0", "n115", "v0"))
}

// P10.2

// keys are labels with their keys.
func keys() map[string][]api.Label {
	out := map[string][]api.Label{
		"":                                  nil,
		"\x01a\x01x":                        l("a", "x"),
		"\x01a\x01x\x01b\x01y":              l("a", "x", "b", "y"),
		"\x01a\x02xy\x03b_9\x01\x01":        l("a", "xy", "b_9", "\x01"),
		"\x01_\x03\n\"\\\x02a0\x02\x00\xff": l("_", "\n\"\\", "a0", "\x00\xff"),
		"\x40" + long(64) + "\x40" + strings.Repeat("\x40", 64): l(long(64), strings.Repeat("\x40", 64)),
		"\x01A\x05\x01a\x01xy\x01a\x01x":                        l("A", "\x01a\x01xy", "a", "x"),
	}
	sixteen := ""
	for _, one := range rising(16) {
		sixteen += "\x04" + one.Name + "\x02" + one.Value
	}
	out[sixteen] = rising(16)
	return out
}

func TestKeyTold(t *testing.T) {
	for key, in := range keys() {
		kept(t, in, nil, func() {
			if got := Key(in); got != key {
				t.Errorf("Key(%q) is %q; want %q", in, got, key)
			}
		})
		checkFrom(t, key, in, api.OK)
	}
	if Key([]api.Label{}) != "" {
		t.Error("an empty list has a key")
	}
}

func TestFromWrong(t *testing.T) {
	for key, in := range keys() {
		for n := range key {
			// A beginning is a key only where a label ends.
			var want []api.Label
			wantE := api.ErrForm
			for i := range in {
				if Key(in[:i]) == key[:n] {
					want, wantE = in[:i], api.OK
				}
			}
			checkFrom(t, key[:n], want, wantE)
		}
		for c := range 256 {
			checkFrom(t, key+string([]byte{byte(c)}), nil, api.ErrForm)
		}
		checkFrom(t, "\x00"+key, nil, api.ErrForm)
		checkFrom(t, key+"\x00\x00", nil, api.ErrForm)
	}
	for _, s := range []string{
		"\x00\x01x", "\x01a\x00", "\x00\x00", // a length of 0
		"\x01a\x00\x01b\x01y",
		"\x02a\x01x", "\x01a\x02x", "\x01a\xffx", "\xff", "\x05a", "\x01", "\x01a", // of more than there are
		"\x01a\x01xy", "\x01ab\x01x", // of fewer
		"\x01b\x01y\x01a\x01x", "\x01a\x01x\x01a\x01x", "\x01a\x01x\x01a\x01y", // the wrong order
		"\x011\x01x", "\x01-\x01x", "\x02a \x01x", "\x021a\x01x", // no name
		"\x41" + long(65) + "\x01x", "\x01a\x41" + long(65), "\xff" + long(255) + "\x01x", // too long
	} {
		checkFrom(t, s, nil, api.ErrForm)
	}
	seventeen := ""
	for _, one := range rising(17) {
		seventeen += "\x04" + one.Name + "\x02" + one.Value
	}
	checkFrom(t, seventeen, nil, api.ErrForm)
	checkFrom(t, strings.Repeat("\x01a\x01x", 1000), nil, api.ErrForm)
	checkFrom(t, strings.Repeat("\x00", 100000), nil, api.ErrForm)
}

// texts are all texts of at most so many of some letters.
func texts(letters string, most int) []string {
	out := []string{""}
	begin := 0
	for range most {
		end := len(out)
		for _, s := range out[begin:end] {
			for i := range len(letters) {
				out = append(out, s+letters[i:i+1])
			}
		}
		begin = end
	}
	return out
}

// Of all short texts just those are keys that are made of labels.
func TestFromAll(t *testing.T) {
	letters := "\x00\x01\x02a_"
	have := map[string][]api.Label{"": nil}
	byName := []string{"_", "__", "_a", "a", "a_", "aa"}
	for _, value := range texts(letters, 2)[1:] {
		for i, name := range byName {
			one := string([]byte{byte(len(name))}) + name + string([]byte{byte(len(value))}) + value
			have[one] = l(name, value)
			for _, other := range byName[i+1:] {
				for _, behind := range texts(letters, 2)[1:] {
					two := one + string([]byte{byte(len(other))}) + other + string([]byte{byte(len(behind))}) + behind
					have[two] = l(name, value, other, behind)
				}
			}
		}
	}
	found := 0
	for _, s := range texts(letters, 8) {
		want, is := have[s]
		wantE := api.ErrForm
		if is {
			wantE = api.OK
			found++
		}
		if got, e := From(s); !slices.Equal(got, want) || e != wantE {
			t.Fatalf("From(%q) is %q, %d; want %q, %d", s, got, e, want, wantE)
		}
	}
	if found < 200 {
		t.Errorf("only %d keys", found)
	}
	for s, want := range have {
		checkFrom(t, s, want, api.OK)
	}
}

func TestQuoteTold(t *testing.T) {
	for s, want := range map[string]string{
		"":              `""`,
		"x":             `"x"`,
		"a b":           `"a b"`,
		"\n":            `"\n"`,
		`"`:             `"\""`,
		`\`:             `"\\"`,
		"a\nb\"c\\d":    `"a\nb\"c\\d"`,
		`\n`:            `"\\n"`,
		"\\\n":          `"\\\n"`,
		"\"\"":          `"\"\""`,
		"\r\t\x00\xffä": "\"\r\t\x00\xffä\"",
		"n":             `"n"`,
		"\n\n":          `"\n\n"`,
		long(1000):      `"` + long(1000) + `"`,
		"{a=\"x\"}\n":   `"{a=\"x\"}\n"`,
		`'`:             `"'"`,
	} {
		if got := Quote(s); got != want {
			t.Errorf("Quote(%q) is %s; want %s", s, got, want)
		}
		checkUnquote(t, want, s, "", true)
		for _, rest := range []string{"x", `"`, "\n", `\`, "\x00", ",b=\"y\"}", want} {
			checkUnquote(t, want+rest, s, rest, true)
		}
	}
	for c := range 256 {
		s := string([]byte{byte(c)})
		want := `"` + s + `"`
		switch s {
		case "\n":
			want = `"\n"`
		case `"`, `\`:
			want = `"\` + s + `"`
		}
		if got := Quote(s); got != want {
			t.Errorf("Quote(%q) is %s; want %s", s, got, want)
		}
	}
}

func TestUnquoteWrong(t *testing.T) {
	for _, s := range []string{
		"", "x", ` "x"`, `x"x"`, `'x'`, "\n\"x\"", `\"x"`, // none at the beginning
		`"`, `"x`, `"x\"`, `"\`, `"\\`, `"\\\"`, `"x\`, // the end is missing
		"\"\n\"", "\"x\ny\"", "\"x\n", "\"\\\n\"", // a line feed
	} {
		checkUnquote(t, s, "", "", false)
	}
	for c := range 256 {
		s := string([]byte{byte(c)})
		switch s {
		case "n":
			checkUnquote(t, `"\`+s+`"y`, "\n", "y", true)
		case `"`:
			checkUnquote(t, `"\`+s+`"y`, `"`, "y", true)
		case `\`:
			checkUnquote(t, `"\`+s+`"y`, `\`, "y", true)
		default:
			checkUnquote(t, `"\`+s+`"y`, "", "", false)
		}
	}
}

// quoted says how a text in quotes is written.
var quoted = regexp.MustCompile(`^"((?:[^"\\\n]|\\[n"\\])*)"`)

// plain is what stands in quotes.
func plain(s string) string {
	return strings.NewReplacer(`\n`, "\n", `\"`, `"`, `\\`, `\`).Replace(s)
}

func TestUnquoteAll(t *testing.T) {
	for _, s := range texts("\"\\n\na", 7) {
		text, rest, ok := "", "", false
		if m := quoted.FindStringSubmatch(s); m != nil {
			text, rest, ok = plain(m[1]), s[len(m[0]):], true
		}
		if gotText, gotRest, got := Unquote(s); gotText != text || gotRest != rest || got != ok {
			t.Fatalf("Unquote(%q) is %q, %q, %t; want %q, %q, %t", s, gotText, gotRest, got, text, rest, ok)
		}
		if ok && Quote(text)+rest != s {
			t.Fatalf("Quote(%q) is %s; want %s", text, Quote(text), s)
		}
		if text, rest, ok = Unquote(Quote(s) + s); text != s || rest != s || !ok {
			t.Fatalf("Unquote of Quote of %q is %q, %q, %t", s, text, rest, ok)
		}
	}
}

func TestPrintTold(t *testing.T) {
	for text, in := range map[string][]api.Label{
		`{}`:                                    nil,
		`{a="x"}`:                               l("a", "x"),
		`{a="x",b="y"}`:                         l("a", "x", "b", "y"),
		`{A="1",_="2",a_0="3"}`:                 l("A", "1", "_", "2", "a_0", "3"),
		`{a="\n",b="\"",c="\\"}`:                l("a", "\n", "b", `"`, "c", `\`),
		`{a="x,b=\"y\"}",b="{}"}`:               l("a", `x,b="y"}`, "b", "{}"),
		"{a=\" \x00\xffä\r\"}":                  l("a", " \x00\xffä\r"),
		`{a=",",b="=",c="}"}`:                   l("a", ",", "b", "=", "c", "}"),
		`{` + long(64) + `="` + long(64) + `"}`: l(long(64), long(64)),
	} {
		kept(t, in, nil, func() {
			if got := Print(in); got != text {
				t.Errorf("Print(%q) is %s; want %s", in, got, text)
			}
		})
		checkParse(t, text, in, api.OK)
	}
	if got := Print([]api.Label{}); got != "{}" {
		t.Errorf("an empty list is printed %s", got)
	}
	text := "{"
	for i, one := range rising(16) {
		if i > 0 {
			text += ","
		}
		text += one.Name + `="` + one.Value + `"`
	}
	if got := Print(rising(16)); got != text+"}" {
		t.Errorf("16 are printed %s", got)
	}
	checkParse(t, text+"}", rising(16), api.OK)
	checkParse(t, text+`,n116="v1"}`, nil, api.ErrLimit)
	checkParse(t, text+`,n116="v1"`, nil, api.ErrForm)
	checkParse(t, text+`,n116="v1",}`, nil, api.ErrForm)
	checkParse(t, text+`,n115="v1"}`, nil, api.ErrLimit)
}

func TestParseWrongForm(t *testing.T) {
	for _, s := range []string{
		"", "{", "}", "a", `a="x"`, `a="x"}`, " {}", "{} ", "{ }", "[]", "{}{}", "{{}}", "()", "\n{}",
		// The end is missing.
		`{a="x"`, `{a="x",`, `{a="x`, `{a="`, `{a=`, `{a`, `{a="x",b`, `{a="x\"}`, `{a="}`,
		// A comma too many, or too few.
		`{,}`, `{a="x",}`, `{,a="x"}`, `{a="x",,b="y"}`, `{a="x"b="y"}`, `{a="x";b="y"}`, `{a="x" ,b="y"}`, `{a="x",b="y",}`, `{,`, `,`, `{a,="x"}`,
		// Text behind the end.
		`{a="x"}z`, `{a="x"} `, "{a=\"x\"}\n", `{a="x"}}`, `{a="x"},`, `{a="x"}{}`, `{}a="x"`, "{}\x00",
		// No quotes, or no value that stands in quotes.
		`{a=x}`, `{a=}`, `{a='x'}`, `{a="x}`, `{a=x"}`, `{a=x"y"}`, `{a= "x"}`, `{a"x"}`, `{a="x"y}`, `{a=""x}`, `{a}`, `{a,b}`, `{a!="x"=}`, `{a=="x"}`, `{a=~"x"}`, `{"a"="x"}`, `{a="x"="y"}`, `{}="x"}`, `{a}="x"}`, `{a{="x"}`,
		"{a=\"x\ny\"}", "{a=\"\n\"}", "{a=\"x\"\n}", `{a="\x"}`, `{a="\t"}`, `{a="\"}`, `{a="\`, "{a=\"\\\n\"}", `{a="x\ "}`,
	} {
		checkParse(t, s, nil, api.ErrForm)
	}
}

func TestParseWrongLabels(t *testing.T) {
	for _, s := range []string{
		`{b="y",a="x"}`, `{a="x",a="y"}`, `{a="x",a="x"}`, `{a="x",c="z",b="y"}`, // not rising
		`{a=""}`, `{a="",b="x"}`, `{a="` + long(65) + `"}`, `{a="` + strings.Repeat(`\n`, 65) + `"}`, // no value
		`{1a="x"}`, `{0="x"}`, `{` + long(65) + `="x"}`, `{A="x",1="x"}`, // no name
		`{="x"}`, `{a-b="x"}`, `{ a="x"}`, `{a ="x"}`, `{a="x", b="y"}`, "{\na=\"x\"}", `{ä="x"}`, `{a!="x"}`, `{a\="x"}`, // nor are these, though none of the text's own signs is in them
	} {
		checkParse(t, s, nil, api.ErrLabel)
		// How it is written is told first.
		checkParse(t, s+" ", nil, api.ErrForm)
		checkParse(t, s[:len(s)-1], nil, api.ErrForm)
	}
	checkParse(t, `{a="`+strings.Repeat(`\n`, 64)+`"}`, l("a", strings.Repeat("\n", 64)), api.OK)
	var many []string
	for _, one := range rising(17) {
		many = append(many, one.Name+"="+Quote(one.Value))
	}
	checkParse(t, "{"+strings.Join(many, ",")+"}", nil, api.ErrLimit)
	slices.Reverse(many)
	checkParse(t, "{"+strings.Join(many, ",")+"}", nil, api.ErrLimit)
	checkParse(t, "{"+strings.Join(many[:16], ",")+"}", nil, api.ErrLabel)
	checkParse(t, "{"+strings.Join(many, ",")+"}}", nil, api.ErrForm)
}

// written says how labels are written, of names of which the document says that they are.
var written = regexp.MustCompile(`^\{(?:[A-Za-z_][0-9A-Za-z_]*="(?:[^"\\\n]|\\[n"\\])+"(?:,[A-Za-z_][0-9A-Za-z_]*="(?:[^"\\\n]|\\[n"\\])+")*)?\}$`)

// checkWritten asserts that a text is read just if it is one of labels, and what it tells.
func checkWritten(t *testing.T, s string) bool {
	t.Helper()
	got, e := Parse(s)
	switch {
	case e == api.OK && (!written.MatchString(s) || Print(got) != s || Check(got) != api.OK):
		t.Fatalf("Parse(%q) is %q", s, got)
	case e != api.OK && len(got) != 0:
		t.Fatalf("Parse(%q) is %q, %d", s, got, e)
	case e == api.ErrForm && written.MatchString(s):
		t.Fatalf("Parse(%q) is %d", s, e)
	}
	return e == api.OK
}

func TestParseAll(t *testing.T) {
	read := 0
	for _, s := range texts("{}=,\"\\a\n", 6) {
		if checkWritten(t, s) {
			read++
		}
	}
	// Within the first label, and behind it.
	for _, s := range texts("=,\"\\ab\n", 5) {
		for _, one := range []string{`{a="` + s + `"}`, `{a="x"` + s + `}`, `{a="x",b=` + s + `}`, `{a="x"` + s + `="y"}`} {
			if checkWritten(t, one) {
				read++
			}
		}
	}
	if read < 1000 {
		t.Errorf("only %d were read", read)
	}
}

// P10.3

// drawn are labels that may be.
func drawn(r *rand.Rand) []api.Label {
	const first, others = "ab_Z", "ab_Z09"
	have := map[string]string{}
	for range r.IntN(17) {
		name := first[r.IntN(4):][:1]
		for range r.IntN(1 + r.IntN(6)) {
			name += others[r.IntN(6):][:1]
		}
		value := ""
		for range 1 + r.IntN(1+r.IntN(64)) {
			if r.IntN(2) == 0 {
				value += string([]byte{byte(r.Uint32())})
			} else {
				value += "\n\"\\\x01an=,{}"[r.IntN(10):][:1]
			}
		}
		have[name] = value
	}
	var out []api.Label
	for _, name := range slices.Sorted(maps.Keys(have)) {
		out = append(out, x(name, have[name]))
	}
	return out
}

func TestDrawn(t *testing.T) {
	r := rand.New(rand.NewPCG(10, 1))
	for range 5000 {
		in := drawn(r)
		checkCheck(t, "drawn", in, api.OK)
		mixed := slices.Clone(in)
		r.Shuffle(len(mixed), func(i, k int) { mixed[i], mixed[k] = mixed[k], mixed[i] })
		checkMake(t, "drawn", mixed, in, api.OK)
		checkFrom(t, Key(in), in, api.OK)
		checkParse(t, Print(in), in, api.OK)
		for _, one := range in {
			checkGet(t, in, one.Name, one.Value)
			checkUnquote(t, Quote(one.Value)+"z", one.Value, "z", true)
		}
		// Changed at one place they are no longer read, or as others, of which it is the text.
		text := []byte(Print(in))
		text[r.IntN(len(text))] = "{}=,\"\\a\n0n"[r.IntN(10)]
		if got, e := Parse(string(text)); e == api.OK && Print(got) != string(text) {
			t.Fatalf("Parse(%q) is %q", text, got)
		}
		key := []byte(Key(in))
		if len(key) > 0 {
			key[r.IntN(len(key))] ^= 1 << r.IntN(8)
			if got, e := From(string(key)); e == api.OK && Key(got) != string(key) || e != api.OK && e != api.ErrForm {
				t.Fatalf("From(%q) is %q, %d", key, got, e)
			}
		}
	}
}

func TestKeysDiffer(t *testing.T) {
	have := map[string][]api.Label{}
	r := rand.New(rand.NewPCG(10, 2))
	for range 20000 {
		in := drawn(r)
		if r.IntN(2) == 0 && len(in) > 2 {
			in = in[:2]
		}
		for _, s := range []string{Key(in), Print(in)} {
			if was, is := have[s]; is && !slices.Equal(was, in) {
				t.Fatalf("%q is both of %q and %q", s, was, in)
			}
			have[s] = in
		}
	}
	one := l("a", "x", "b", "y")
	for _, other := range [][]api.Label{
		nil, l("a", "x"), l("b", "y"), l("a", "y", "b", "x"), l("a", "x", "c", "y"), l("a", "x", "b", "yy"), l("a", "xb", "b", "y"),
		l("a", "x", "b", "y", "c", "z"), l("a", "x\x01b\x01y"), l("a", `x",b="y`), l("ab", "xy"), l("A", "x", "b", "y"),
	} {
		if Key(one) == Key(other) || Print(one) == Print(other) || Compare(one, other) == 0 {
			t.Errorf("%q and %q are one", one, other)
		}
	}
}

// R3: what is handed out is new.
func TestNothingIsShared(t *testing.T) {
	room := l("a", "x", "b", "y", "c", "z")
	in := room[:2]
	names := []string{"a", "b", "z"}
	made, _ := Make(in...)
	by := By(in, names[:2]...)
	made[0].Value, by[0].Value = "1", "2"
	_, _ = append(made, x("d", "d")), append(by, x("e", "e"))
	if !slices.Equal(room, l("a", "x", "b", "y", "c", "z")) || !slices.Equal(names, []string{"a", "b", "z"}) {
		t.Errorf("they became %q, %q", room, names)
	}
	if made[1] != x("b", "y") || by[1] != x("b", "y") {
		t.Error("what was made is shared")
	}
}

// R1: whatever is handed in, each call ends, and none panics.
func TestWhatever(t *testing.T) {
	r := rand.New(rand.NewPCG(10, 3))
	word := func() string {
		b := make([]byte, r.IntN(5))
		for i := range b {
			b[i] = byte(r.Uint32())
		}
		if r.IntN(20) == 0 {
			return strings.Repeat(string(b), 100)
		}
		return string(b)
	}
	words := func() []string {
		var out []string
		for range r.IntN(5) {
			out = append(out, word())
		}
		return out
	}
	labels := func() []api.Label {
		var out []api.Label
		for range r.IntN(20) {
			out = append(out, x(word(), word()))
		}
		return out
	}
	for range 20000 {
		in := labels()
		if made, e := Make(in...); Check(made) != api.OK || e != api.OK && len(made) != 0 {
			t.Errorf("Make(%q) is %q, %d", in, made, e)
		}
		Check(in)
		Get(in, word())
		if Compare(in, in) != 0 || Compare(in, labels()) > 1 || Compare(labels(), in) < -1 {
			t.Errorf("Compare of %q", in)
		}
		By(in, words()...)
		From(Key(in))
		From(word())
		Parse(Print(in))
		Parse("{" + word() + "}")
		Unquote(`"` + word())
	}
}
