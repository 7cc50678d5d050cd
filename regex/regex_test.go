package regex

import (
	"math/rand/v2"
	"pluvial/api"
	"reflect"
	"regexp"
	"slices"
	"strconv"
	"strings"
	"testing"
)

// The tests hold the package against answers told one by one, against sets of texts that are reckoned with the patterns, and against the library's patterns, into which all short patterns are turned.

// must is the pattern of a text that is one.
func must(t *testing.T, pattern string) Regex {
	t.Helper()
	r, e := Parse(pattern)
	if e != api.OK {
		t.Fatalf("Parse(%q) is %d", pattern, e)
	}
	return r
}

// is asserts that a pattern is all of texts, and not of others.
func is(t *testing.T, pattern string, all, not []string) {
	t.Helper()
	r := must(t, pattern)
	for _, s := range all {
		if !r.Match(s) {
			t.Errorf("%q isn't all of %q", pattern, s)
		}
	}
	for _, s := range not {
		if r.Match(s) {
			t.Errorf("%q is all of %q", pattern, s)
		}
	}
}

// wrong asserts an error, and that beside it nothing is told.
func wrong(t *testing.T, pattern string, want api.Errno) {
	t.Helper()
	r, e := Parse(pattern)
	if e != want {
		t.Errorf("Parse(%q) is %d; want %d", pattern, e, want)
	}
	if !reflect.ValueOf(r).IsZero() {
		t.Errorf("Parse(%q) is %v beside %d", pattern, r, e)
	}
	for _, s := range []string{"", "a", pattern} {
		if r.Match(s) {
			t.Errorf("what Parse(%q) answers is all of %q", pattern, s)
		}
	}
}

// l is a list of texts.
func l(s ...string) []string { return s }

// one is the text of one byte.
func one(c int) string { return string([]byte{byte(c)}) }

// many is a text so many times.
func many(s string, n int) string { return strings.Repeat(s, n) }

// special are the bytes that stand for themselves only behind a backslash.
const special = `*+?|()[]{}^$.\`

// takes asserts which bytes a pattern is, that is of one byte.
func takes(t *testing.T, pattern string, want func(c int) bool) {
	t.Helper()
	r := must(t, pattern)
	for c := range 256 {
		if got := r.Match(one(c)); got != want(c) {
			t.Errorf("%q is all of %q: %t", pattern, one(c), got)
		}
	}
	for _, s := range []string{"", "ab", "aa", "\x00\x00", "\n\n", pattern + pattern} {
		if r.Match(s) {
			t.Errorf("%q is all of %q", pattern, s)
		}
	}
}

// texts are all texts of some bytes, up to so many of them.
func texts(of string, most int) []string {
	out := []string{""}
	for from := 0; most > 0; most-- {
		end := len(out)
		for _, s := range out[from:end] {
			for i := range len(of) {
				out = append(out, s+of[i:i+1])
			}
		}
		from = end
	}
	return out
}

// P11.1: what patterns are

func TestPlainTold(t *testing.T) {
	is(t, "a(b|c)*", l("a", "ab", "ac", "abcb", "abbbbc"), l("", "abd", "b", "ba", "aab", "abcba", "abcbd", "abcb ", " abcb", "a(b|c)*"))
	is(t, "", l(""), l("a", " ", "\x00", "\n", "aa"))
	is(t, "a", l("a"), l("", "b", "A", "aa", "ab", "ba", "a\n", "\na", "a\x00"))
	is(t, "abc", l("abc"), l("", "a", "ab", "bc", "abcd", "xabc", "abcabc", "acb", "abC"))
	is(t, "a-b", l("a-b"), l("a", "b", "ab", "a-", "a--b"))
	is(t, "-,:=!~\"'/<>@#%&;_ ", l("-,:=!~\"'/<>@#%&;_ "), l("", "-"))
	is(t, "ä", l("ä"), l("", "\xc3", "\xa4", "ö", "\xa4\xc3"))
	is(t, "aa", l("aa"), l("a", "aaa"))
}

func TestRowsTold(t *testing.T) {
	is(t, "a|b", l("a", "b"), l("", "ab", "|", "a|b", "c", "aa"))
	is(t, "ab|cd", l("ab", "cd"), l("", "abd", "acd", "abcd", "a", "d", "ad", "cb"))
	is(t, "a|ab|abc", l("a", "ab", "abc"), l("", "aab", "b", "abcabc"))
	is(t, "abc|ab|a", l("a", "ab", "abc"), l("", "aab", "b"))
	is(t, "a|a", l("a"), l("", "aa"))
	is(t, "(a|ab)(c|bcd)", l("ac", "abc", "abcd", "abbcd"), l("", "a", "ab", "abcbcd", "acd"))
	// Rows of none: at the beginning, in the midst, at the end.
	is(t, "|", l(""), l("|", "a"))
	is(t, "||", l(""), l("|", "||", "a"))
	is(t, "|a", l("", "a"), l("|", "|a", "aa"))
	is(t, "a|", l("", "a"), l("|", "a|", "aa"))
	is(t, "a||b", l("", "a", "b"), l("|", "ab", "a|b"))
	is(t, "|a|b", l("", "a", "b"), l("ab", "|"))
	is(t, "a|b|", l("", "a", "b"), l("ab", "|"))
	is(t, "x(|a)y", l("xy", "xay"), l("", "x", "y", "xaay"))
	is(t, "x(a|)y", l("xy", "xay"), l("", "x", "y", "xaay"))
	is(t, "x(a||b)y", l("xy", "xay", "xby"), l("xaby", "x", "y"))
	is(t, "x(|)y", l("xy"), l("x", "y", "x|y", ""))
	// A bar parts all that stands between the brackets, or the whole.
	is(t, "ab|cd*", l("ab", "c", "cd", "cdd"), l("abd", "abdd", "acd", "", "cdcd"))
	is(t, "a(b|c)d", l("abd", "acd"), l("ab", "cd", "ad", "abcd"))
	is(t, "a|b*", l("", "a", "b", "bb"), l("ab", "aa", "abb"))
	is(t, "x|(a|b)|y", l("x", "a", "b", "y"), l("", "xa", "by"))
}

func TestSignsTold(t *testing.T) {
	is(t, "a*", l("", "a", "aa", many("a", 100)), l("b", "ab", "ba", "aba", "a*", "*"))
	is(t, "a+", l("a", "aa", many("a", 100)), l("", "b", "ab", "ba", "a+"))
	is(t, "a?", l("", "a"), l("aa", "b", "ab", "a?"))
	is(t, "ab*", l("a", "ab", "abb"), l("", "abab", "b", "aab"))
	is(t, "ab+", l("ab", "abb"), l("", "a", "abab", "b"))
	is(t, "ab?", l("a", "ab"), l("", "b", "abb", "abab"))
	is(t, "a*b", l("b", "ab", "aab"), l("", "a", "ba", "abb"))
	is(t, "a+b", l("ab", "aab"), l("", "b", "a", "abab"))
	is(t, "a?b", l("b", "ab"), l("", "a", "aab"))
	is(t, "a*b*c*", l("", "a", "b", "c", "ab", "ac", "bc", "aabbcc"), l("ba", "ca", "cb", "abca"))
	is(t, "a?b?c?", l("", "a", "b", "c", "ab", "ac", "bc", "abc"), l("aa", "ba", "abcc", "cb"))
	is(t, "a+b+", l("ab", "aabb"), l("", "a", "b", "aba", "ba"))
	is(t, "a*a", l("a", "aa", "aaa"), l("", "b", "ab"))
	is(t, "a*aa", l("aa", "aaa"), l("", "a"))
	is(t, ".*", l("", "a", "\n", "a\nb\xff\x00", many("xy", 500)), nil)
	is(t, ".+", l("a", "\n", "ab\n"), l(""))
	is(t, ".?", l("", "a", "\n", "\xff"), l("ab", "\n\n"))
	is(t, ".*b", l("b", "ab", "bb", "abab"), l("", "a", "ba"))
	is(t, "a.*", l("a", "ab", "aa"), l("", "ba"))
	is(t, "[ab]*", l("", "a", "b", "abba"), l("c", "abc"))
	is(t, "[ab]+", l("a", "b", "ba"), l("", "c"))
	is(t, "[ab]?", l("", "a", "b"), l("ab", "c"))
	is(t, "[^ab]*", l("", "c", "cd"), l("a", "cac"))
	is(t, `\**`, l("", "*", "**"), l(`\`, `\*`))
	is(t, `\.+`, l(".", ".."), l("", "a"))
	is(t, `\a?`, l("", "a"), l("aa", `\a`))
	is(t, "(ab)*", l("", "ab", "abab"), l("a", "b", "aba", "abb", "ba"))
	is(t, "(ab)+", l("ab", "abab"), l("", "a", "aba", "abb"))
	is(t, "(ab)?", l("", "ab"), l("a", "b", "abab"))
	is(t, "(a|b)*", l("", "a", "b", "abba"), l("c", "abc"))
	is(t, "(a|bc)+", l("a", "bc", "abc", "bca", "bcbcaa"), l("", "b", "c", "ac", "cb", "bcc"))
	is(t, "x(a|b)?y", l("xy", "xay", "xby"), l("xaby", "x"))
	is(t, "(a*b)*", l("", "b", "ab", "aab", "bab", "abb"), l("a", "ba", "aba"))
	is(t, "(ab*)+", l("a", "ab", "aab", "abba"), l("", "b", "ba"))
	is(t, "(ab?)*c", l("c", "ac", "abc", "aabac"), l("bc", "abbc", "ab"))
	is(t, "((a|b)(c|d))*", l("", "ac", "bd", "adbc"), l("a", "ab", "acb", "ca"))
}

func TestSignsBehindSigns(t *testing.T) {
	// The later ones are of all ahead.
	some := l("a", "aa", many("a", 50))
	for _, signs := range []string{"**", "*+", "*?", "+*", "+?", "?*", "?+", "***", "+?*", "??+", "++?", "*+?", "?+?", "+*+", "?*?+*"} {
		is(t, "a"+signs, append(some, ""), l("b", "ab", "ba", "a"+signs))
		is(t, "(ab)"+signs, l("", "ab", "abab"), l("a", "b", "aba"))
		is(t, "xa"+signs+"y", l("xy", "xay", "xaay"), l("x", "y", "xx", "xyy", "xaxay"))
		is(t, "[ab]"+signs+"c", l("c", "ac", "abac"), l("", "ab", "cc"))
		is(t, "."+signs, l("", "a", "ab\n"), nil)
	}
	for _, signs := range []string{"++", "+++", "++++"} {
		is(t, "a"+signs, some, l("", "b", "ab"))
		is(t, "xa"+signs+"y", l("xay", "xaay"), l("xy", "x", "y"))
	}
	for _, signs := range []string{"??", "???"} {
		is(t, "a"+signs, l("", "a"), l("aa", "b"))
		is(t, "xa"+signs+"y", l("xay", "xy"), l("xaay", "x"))
	}
	is(t, "ab*?c", l("ac", "abc", "abbc"), l("abab", "c", "ab", ""))
	is(t, "((a+)?)*b", l("b", "ab", "aab"), l("", "a", "aba"))
	is(t, "(a?)+b", l("b", "ab", "aaab"), l("", "a"))
	is(t, "(a?b?)+c", l("c", "ac", "bc", "abc", "bac", "bbaac"), l("", "cc"))
	is(t, "(a*)*", append(some, ""), l("b"))
	is(t, "(a*|b)+", l("", "a", "b", "aabab"), l("c"))
	is(t, "(a*)?(b*)+", l("", "a", "b", "ab", "aabb"), l("ba"))
}

func TestBracketsOfNothing(t *testing.T) {
	for _, nothing := range []string{"()", "(())", "()*", "()+", "()?", "(|)", "(|)*", "()()", "(()|())+", "()*?+", "(((((())))))"} {
		is(t, nothing, l(""), l("a", "()", "(", ")"))
		is(t, "a"+nothing+"b", l("ab"), l("", "a", "b", "a"+nothing+"b"))
		is(t, nothing+"a*", l("", "a", "aa"), l("b"))
		is(t, "("+nothing+"a"+nothing+")*", l("", "a", "aa"), l("b", "ab"))
		is(t, "a|"+nothing, l("", "a"), l("aa"))
	}
}

// P11.1: parts of one byte

func TestDot(t *testing.T) {
	takes(t, ".", func(int) bool { return true })
	takes(t, "(.)", func(int) bool { return true })
	is(t, "...", l("abc", "\n\n\n", "\x00\xff\x80", "ä."), l("", "ab", "abcd", "ää"))
	is(t, "a.c", l("abc", "a.c", "a\nc", "a\xffc"), l("ac", "abbc"))
	is(t, `a\.c`, l("a.c"), l("abc", `a\.c`))
}

func TestEachByteAlone(t *testing.T) {
	for c := range 256 {
		s := one(c)
		switch {
		case s == "." || s == "|":
		case strings.Contains(special, s):
			wrong(t, s, api.ErrRegex)
		default:
			takes(t, s, func(d int) bool { return d == c })
			is(t, s+s, l(s+s), l(s, s+one(c^1), one(c^128)+s))
		}
	}
	for _, s := range l("(", ")", "[", "]", "{", "}", "^", "$") {
		for _, pattern := range l("a"+s, s+"a", "a"+s+"b", "a|"+s, s+"|a", "(a)"+s, s+"*") {
			wrong(t, pattern, api.ErrRegex)
		}
	}
	for _, s := range l("{", "}", "^", "$", "]") {
		wrong(t, "("+s+")", api.ErrRegex)
		is(t, `\`+s, l(s), l("", `\`+s))
	}
	wrong(t, "a{2}", api.ErrRegex)
	wrong(t, "^a$", api.ErrRegex)
}

func TestEachByteBehindABackslash(t *testing.T) {
	for c := range 256 {
		s := one(c)
		takes(t, `\`+s, func(d int) bool { return d == c })
		is(t, `x\`+s+"y", l("x"+s+"y"), l("xy", `x\`+s+"y", "x"+one(c^1)+"y"))
	}
	is(t, `\n\t\d\w\b\A`, l("ntdwbA"), l("\n\t"))
	is(t, `\\`, l(`\`), l(`\\`, ""))
	is(t, `\\\\`, l(`\\`), l(`\`))
	is(t, `\\*`, l("", `\`, `\\\`), l("*", `\*`))
	is(t, `\\\*`, l(`\*`), l("", `\`, "*"))
	is(t, `\(a\)`, l("(a)"), l("a"))
	is(t, `a\|b`, l("a|b"), l("a", "b"))
	is(t, `\[a-b\]`, l("[a-b]"), l("a", "b"))
	is(t, `(\))`, l(")"), l("", `\`))
	is(t, `\((\|)\)`, l("(|)"), l("", "()"))
	wrong(t, `\`, api.ErrRegex)
	wrong(t, `a\`, api.ErrRegex)
	wrong(t, `\\\`, api.ErrRegex)
	wrong(t, `(a\)`, api.ErrRegex)
	wrong(t, `a|\`, api.ErrRegex)
}

// P11.1: classes

func TestClassOfOneByte(t *testing.T) {
	for c := range 256 {
		s := one(c)
		self := func(d int) bool { return d == c }
		rest := func(d int) bool { return d != c }
		for _, item := range l(`\`+s, `\`+s+`\`+s, `\`+s+`-\`+s) {
			takes(t, "["+item+"]", self)
			takes(t, "[^"+item+"]", rest)
		}
		if s == `\` {
			wrong(t, "["+s+"]", api.ErrRegex)
			continue
		}
		takes(t, "[^"+s+"]", rest)
		if s == "^" {
			wrong(t, "["+s+"]", api.ErrRegex)
			continue
		}
		takes(t, "["+s+"]", self)
		takes(t, "["+s+"-"+s+"]", self)
	}
}

func TestRanges(t *testing.T) {
	for from := range 256 {
		for to := range 256 {
			item := `\` + one(from) + `-\` + one(to)
			if to < from {
				wrong(t, "["+item+"]", api.ErrRegex)
				wrong(t, "[^"+item+"]", api.ErrRegex)
				continue
			}
			takes(t, "["+item+"]", func(c int) bool { return from <= c && c <= to })
			if from%5 == 0 {
				takes(t, "[^"+item+"]", func(c int) bool { return c < from || to < c })
			}
		}
	}
}

// in are the bytes of a text.
func in(s string) func(int) bool { return func(c int) bool { return strings.Contains(s, one(c)) } }

// out are the others.
func out(s string) func(int) bool { return func(c int) bool { return !strings.Contains(s, one(c)) } }

func TestClassesTold(t *testing.T) {
	for pattern, bytes := range map[string]string{
		"[abc]": "abc", "[cba]": "abc", "[aa]": "a", "[a-c]": "abc", "[a-cb-d]": "abcd", "[a-cx]": "abcx", "[xa-c]": "abcx", "[a-a]": "a",
		"[a-cx-z]": "abcxyz", "[a-c0-2_]": "abc012_", "[a\nb]": "a\nb", "[\xfe-\xff]": "\xfe\xff", "[\x00-\x02]": "\x00\x01\x02", "[ä]": "\xc3\xa4",
		// What stands for more elsewhere is itself in a class.
		"[.]": ".", "[*+?]": "*+?", "[(|)]": "(|)", "[{}$]": "{}$", "[[]": "[", "[a[]": "a[", "[[-]": "", "[()": "",
		// A bracket as the first item.
		"[]]": "]", "[]a]": "]a", "[]-a]": "]^_`a", "[]-]]": "]", "[]^]": "]^", "[][]": "[]", "[]-^x]": "]^x", "[]": "", "[]a": "", "[]-a": "",
		// And behind a backslash anywhere.
		`[\]]`: "]", `[a\]]`: "a]", `[\]a]`: "]a", `[\[-\]]`: `[\]`, `[[-\]]`: `[\]`, `[\]-a]`: "]^_`a", `[a\]b]`: "ab]", `[\]`: "", `[a\]`: "",
		// A `^` that isn't first, or is behind a backslash.
		"[a^]": "a^", `[\^]`: "^", `[\^a]`: "^a", `[a\^]`: "a^", "[a^b]": "ab^", "[a-^]": "", "[]-^]": "]^", `[\^-a]`: "^_`a", "[A^-a]": "A^_`a",
		// A `-` that is no byte's, and those that stand between two.
		"[-]": "-", "[-a]": "-a", "[---]": "-", "[--/]": "-./", "[+--]": "+,-", "[-a-c]": "-abc", `[a\-c]`: "a-c", `[\--/]`: "-./", `[+-\-]`: "+,-", `[\-]`: "-", `[a\-]`: "a-", `[\--\-]`: "-",
		// One behind two is a byte again.
		"[a-c-]": "abc-", "[a-c-e]": "abc-e", "[a-c--]": "", "[a-c--/]": "abc-./",
		// Behind the `-` a byte stands, whichever it is.
		"[+-]]": "+,-./0123456789:;<=>?@ABCDEFGHIJKLMNOPQRSTUVWXYZ[\\]", "[Z-]a]": "Z[\\]a", "[+-]": "", "[a-]": "", "[a-]]": "",
		`[a-\c]`: "abc", `[\a-c]`: "abc", `[\a-\c]`: "abc", `[\a\b]`: "ab", `[\n]`: "n", `[\\]`: `\`, `[\\-a]`: "\\]^_`a", `[Z-\\]`: `Z[\`, `[\\a]`: `\a`,
		// Nothing, or less, behind what asks for more.
		"[": "", "[^": "", "[^]": "", "[a": "", "[a-": "", "[^a-": "", "[a-b": "", `[a-\`: "", `[a-\]`: "", `[a\`: "", `[\`: "", "[b-a]": "", "[^b-a]": "", "[a-Z]": "", "[1-0]": "", "[ab-a]": "", "[]-[]": "", "[^]-[]": "", `[\b-\a]`: "",
	} {
		if bytes == "" {
			wrong(t, pattern, api.ErrRegex)
			wrong(t, "x|"+pattern, api.ErrRegex)
			continue
		}
		takes(t, pattern, in(bytes))
		takes(t, "("+pattern+")", in(bytes))
		if !strings.HasPrefix(pattern, "[^") {
			takes(t, "[^"+pattern[1:], out(bytes))
		}
	}
	takes(t, "[^^]", out("^"))
	takes(t, "[^^a]", out("^a"))
	takes(t, "[^-]", out("-"))
	takes(t, "[^-a]", out("-a"))
	takes(t, "[^-^]", out("-^"))
	takes(t, "[^]]", out("]"))
	takes(t, "[^]a]", out("]a"))
	takes(t, "[^]-a]", out("]^_`a"))
	takes(t, "[^^-a]", out("^_`a"))
	takes(t, "[^\n]", out("\n"))
	// All bytes, and none.
	takes(t, "[\x00-\xff]", func(int) bool { return true })
	takes(t, "[^\x00-\xff]", func(int) bool { return false })
	is(t, "[^\x00-\xff]|a", l("a"), l("", "b"))
	is(t, "[^\x00-\xff]*", l(""), l("a"))
	// A class ends at its end: what stands behind is no more of it.
	is(t, "[ab]c", l("ac", "bc"), l("c", "a", "abc"))
	is(t, "[]]a", l("]a"), l("a", "]"))
	is(t, "[^a]b", l("bb", "cb"), l("ab", "b"))
	is(t, "[a-c][0-9]", l("a0", "c9"), l("a", "0a", "d0"))
	is(t, "[a|b]|c", l("a", "b", "c", "|"), l("ab"))
	is(t, "([)])", l(")"), l(""))
	wrong(t, "[ab]]", api.ErrRegex)
	wrong(t, "[[:alpha:]]", api.ErrRegex)
}

// P11.1: errors

func TestWrongTold(t *testing.T) {
	for _, pattern := range l(
		// Nothing ahead.
		"*", "+", "?", "**", "*a", "+a", "?a", "a|*", "a|+", "a|?", "|*", "*|a", "(*)", "(+)", "(?)", "(*a)", "a(*)", "(a|*)", "(|?b)", "a||+", "(?:a)", "(?i)a", "()|*",
		// Brackets that aren't closed, or never opened.
		"(", "((", "(a", "(a|", "(a|b", "a(", "a(b", "(()", "((a)", "(a(b)", ")", "a)", "a)b", "())", "(a))", "|)", ")(", "a|)", "(a)|b)", "(a]", `\(a)`, `(a\)`, "([)]", "[(])",
		// No part.
		"{", "}", "^", "$", "]", "a{", "a}", "{2}", "a{2}", "a{1,2}", "^a", "a$", "a^", "$a", "a]", "]a", "a|^b", "(^a)", "(a$)", "a*$", "a*]", "a+{2}", "()^", "a*^",
	) {
		wrong(t, pattern, api.ErrRegex)
	}
}

func TestDepth(t *testing.T) {
	for n := range 20 {
		open, closed := many("(", n), many(")", n)
		if n > 7 {
			for _, pattern := range l(open, open+closed, open+"a"+closed, "x|"+open+"a"+closed, open+"*", open+"]", open+closed+")", "a"+open, "()"+open, `\((`+open, "[(]*"+open, "(a|"+open[1:]) {
				wrong(t, pattern, api.ErrLimit)
			}
			// What is met ahead of it goes ahead.
			for _, pattern := range l("*"+open, ")"+open, "a)"+open, "]"+open, "{"+open, "a|*"+open, "(a))"+open, "[b-a]"+open, "["+open, "[]"+open+closed, "(*"+open, open[:7]+"?"+open) {
				wrong(t, pattern, api.ErrRegex)
			}
			continue
		}
		is(t, open+closed, l(""), l("a", "()", "("))
		is(t, open+"a"+closed, l("a"), l("", "aa"))
		is(t, open+"a"+many(")*", n), l("a"), l("b", "ab"))
		is(t, "x|"+open+"a"+closed, l("x", "a"), l("", "xa"))
		wrong(t, open+closed+")", api.ErrRegex)
		if n > 0 {
			// That one isn't closed is met at the end.
			wrong(t, open, api.ErrRegex)
			wrong(t, open+closed[1:], api.ErrRegex)
		}
	}
	// Those that are closed add nothing, nor do those that stand for themselves.
	is(t, many("(a)", 21), l(many("a", 21)), l("", many("a", 20)))
	is(t, "(((((((a)b)c)d)e)f)g)(((((((h)i)j)k)l)m)n)", l("abcdefghijklmn"), l("", "abcdefg"))
	is(t, "(((((((a)))))))|(((((((b)))))))", l("a", "b"), l("", "ab"))
	is(t, many(`\(`, 32), l(many("(", 32)), l("", many("(", 31)))
	is(t, "["+many("(", 62)+"]", l("("), l("", ")", "(("))
	is(t, `((((((([(]\()))))))`, l("(("), l("("))
	wrong(t, "(((((((a)))))))((((((((b))))))))", api.ErrLimit)
	wrong(t, "(((((((a|(b)", api.ErrLimit)
	wrong(t, "(((((((a)(b", api.ErrRegex)
	wrong(t, "(((((((a)((b", api.ErrLimit)
}

func TestLength(t *testing.T) {
	for _, n := range []int{63, 64} {
		is(t, many("a", n), l(many("a", n)), l("", many("a", n-1), many("a", n+1), many("a", n-1)+"b", "b"+many("a", n-1)))
		is(t, many(".", n), l(many("x", n), many("\n", n)), l("", many("x", n-1), many("x", n+1)))
		is(t, many("|", n), l(""), l("|", many("|", n)))
		is(t, "a"+many("*", n-1), l("", "a", many("a", 200)), l("b", "a*"))
		is(t, many("a", n-2)+`\*`, l(many("a", n-2)+"*"), l(many("a", n-2), many("a", n-2)+`\*`))
		is(t, "["+many("a", n-4)+"z]x", l("ax", "zx"), l("x", "a"))
	}
	is(t, many("ä", 32), l(many("ä", 32)), l("", many("ä", 31)))
	is(t, many("ab?", 21)+"c", l(many("a", 21)+"c", many("ab", 21)+"c"), l(many("a", 20)+"c", many("a", 21)))
	is(t, many("a|", 31)+"bc", l("a", "bc"), l("", "b", "aa"))
	for _, n := range []int{65, 66, 100, 1000, 1 << 20} {
		// Ahead of all else that is wrong.
		for _, s := range l("a", ".", "|", "*", ")", "(", "]", "[", `\`, "()", `\(`, "{", "\x00") {
			wrong(t, many(s, n)[:n], api.ErrLimit)
		}
		wrong(t, "*"+many("a", n-1), api.ErrLimit)
		wrong(t, many("a", n-1)+`\`, api.ErrLimit)
	}
	wrong(t, many("ä", 32)+"a", api.ErrLimit)
	wrong(t, many("ä", 33), api.ErrLimit)
	wrong(t, many("a", 63)+`\`, api.ErrRegex)
	wrong(t, many("a", 63)+")", api.ErrRegex)
	wrong(t, many("(", 64), api.ErrLimit)
	wrong(t, many(")", 64), api.ErrRegex)
	wrong(t, "["+many("(", 63), api.ErrRegex)
}

func TestZero(t *testing.T) {
	var r Regex
	for _, s := range l("", "a", "\x00", "\n", many("a", 1000)) {
		if r.Match(s) || (Regex{}).Match(s) {
			t.Errorf("a zero one is all of %q", s)
		}
	}
}

// P11.1: long texts, and very many ways

func TestLongTexts(t *testing.T) {
	long := many("a", 1<<20)
	for _, pattern := range l("a*", "a+", "(a|a)*", "(a*)*", "((((((a*)*)*)*)*)*)*", "(a+)+", "(a?)*", "(a|aa)+", "(aa)*", "(aaaa)+", "[^b]*", "(a*)(a*)(a*)", many("a*", 32), many("a?", 10)+"a*") {
		is(t, pattern, l(long), l(long+"b", "b"+long, long+"b"+long))
		if len(pattern) < 62 {
			is(t, pattern+"bc", l(long+"bc"), l(long, long+"b", long+"bb", long+"bcc", long+"c"))
		}
	}
	for _, pattern := range l(".*", ".+", "(.|\n)*", many(".*", 32), "([a-m]|[^a-m])*", "(.*a.*)*") {
		is(t, pattern, l(long, long+"\n\xff"+long), nil)
		if len(pattern) < 64 {
			is(t, pattern+"b", l(long+"b", long+"bb", "b"+long+"b"), l(long, long+"bc", "b"+long))
		}
	}
	is(t, "(ab|ba)*", l(many("ab", 1<<19), many("abba", 1<<18)), l(many("ab", 1<<19)+"a", many("ab", 1<<18)+"a"+many("ab", 1<<18)))
	is(t, "(aa)*", l(long), l(long+"a"))
	is(t, "(aaa)*", l(long+"aa"), l(long, long+"a"))
	is(t, "x.*y|z", l("x"+long+"y"), l("x"+long, long+"y", "z"+long))
	is(t, "a", l("a"), l(long))
}

func TestVeryManyWays(t *testing.T) {
	maybe := many("a?", 21) + many("a", 21)
	for n := range 50 {
		if got := must(t, maybe).Match(many("a", n)); got != (21 <= n && n <= 42) {
			t.Errorf("%q is all of %d: %t", maybe, n, got)
		}
	}
	for _, pattern := range l("(a|a)*b", "(a*)*b", "(a+)+b", "(a|aa)+b", "(a?a?)*b", "((a*)+(a*)+)*b", "(((((((a*)*)+)?)*)+)*)b", "(.*)*b", "(.|a|[ab])*b") {
		is(t, pattern, l(many("a", 60)+"b", many("a", 5000)+"b"), l(many("a", 60), many("a", 5000), many("a", 5000)+"c"))
	}
}

// P11.1: all short patterns, against the library's

// sign is a byte of a pattern: bare, or with a backslash ahead; and where it begins.
type sign struct {
	c    byte
	bare bool
	from int
}

// signs are those of a pattern; false: it ends with a backslash.
func signs(pattern string) ([]sign, bool) {
	var out []sign
	for i := 0; i < len(pattern); i++ {
		if pattern[i] != '\\' {
			out = append(out, sign{pattern[i], true, i})
			continue
		}
		if i+1 == len(pattern) {
			return nil, false
		}
		out = append(out, sign{pattern[i+1], false, i})
		i++
	}
	return out, true
}

// at says whether a bare byte is the i-th sign.
func at(s []sign, i int, c byte) bool { return i < len(s) && s[i].bare && s[i].c == c }

// hex is a byte as the library's patterns have it.
func hex(c byte) string { return `\x{` + strconv.FormatInt(int64(c), 16) + "}" }

// libraryClass turns a class: behind how many signs it ends; 0: it is none.
func libraryClass(s []sign) (string, int) {
	text, i := "[", 1
	if at(s, i, '^') {
		text, i = "[^", 2
	}
	for first := i; ; {
		switch {
		case i >= len(s):
			return "", 0
		case i > first && at(s, i, ']'):
			return text + "]", i + 1
		case at(s, i+1, '-'):
			if i+2 >= len(s) || s[i+2].c < s[i].c {
				return "", 0
			}
			text += hex(s[i].c) + "-" + hex(s[i+2].c)
			i += 3
		default:
			text += hex(s[i].c)
			i++
		}
	}
}

// library turns a pattern, and says how many brackets are open at its end; false: it is none. Brackets, and what signs are behind, are left to the library.
func library(s []sign) (text string, open int, ok bool) {
	for i := 0; i < len(s); i++ {
		switch c := s[i].c; {
		case !s[i].bare:
			text += hex(c)
		case c == '.' || c == '|':
			text += string(c)
		case c == '(':
			text += "(?:"
			open++
		case c == ')':
			text += ")"
			open--
		case strings.IndexByte("*+?", c) >= 0:
			// Of several at once the library has no pattern, or another one.
			none, more := false, false
			for ; at(s, i, '*') || at(s, i, '+') || at(s, i, '?'); i++ {
				none, more = none || s[i].c != '+', more || s[i].c != '?'
			}
			i--
			text += map[[2]bool]string{{true, true}: "*", {false, true}: "+", {true, false}: "?"}[[2]bool{none, more}]
		case c == '[':
			class, long := libraryClass(s[i:])
			if long == 0 {
				return "", 0, false
			}
			text += class
			i += long - 1
		case strings.IndexByte("]{}^$", c) >= 0:
			return "", 0, false
		default:
			text += hex(c)
		}
	}
	return text, open, true
}

// compiled is a pattern as the library's that is all of a text; nil: it is none.
func compiled(pattern string) *regexp.Regexp {
	s, ok := signs(pattern)
	if !ok {
		return nil
	}
	text, _, ok := library(s)
	if !ok {
		return nil
	}
	if _, e := regexp.Compile(text); e != nil {
		return nil
	}
	return regexp.MustCompile(`\A(?s:` + text + `)\z`)
}

// tooDeep says whether a pattern opens a bracket too deep ahead of anything wrong: what stands ahead of that bracket could still have become a pattern.
func tooDeep(pattern string) bool {
	for n := range len(pattern) {
		s, ok := signs(pattern[:n])
		if !ok || pattern[n] != '(' {
			continue
		}
		text, open, ok := library(s)
		if !ok || open != 7 {
			continue
		}
		if _, e := regexp.Compile(text + many(")", 7)); e == nil {
			return true
		}
	}
	return false
}

// runes are a text's bytes, each as the rune of its number.
func runes(s string) string {
	var out []rune
	for i := range len(s) {
		out = append(out, rune(s[i]))
	}
	return string(out)
}

// asLibrary asserts that a pattern is one just if the library's is, and of the same texts; it says whether it is one.
func asLibrary(t *testing.T, pattern string, held []string) bool {
	t.Helper()
	r, e := Parse(pattern)
	lib := compiled(pattern)
	switch {
	case tooDeep(pattern):
		if e != api.ErrLimit {
			t.Fatalf("Parse(%q) is %d", pattern, e)
		}
		return false
	case lib == nil:
		if e != api.ErrRegex {
			t.Fatalf("Parse(%q) is %d", pattern, e)
		}
		return false
	case e != api.OK:
		t.Fatalf("Parse(%q) is %d", pattern, e)
	}
	for _, s := range held {
		if want := lib.MatchString(runes(s)); r.Match(s) != want {
			t.Fatalf("%q is all of %q: %t", pattern, s, !want)
		}
	}
	return true
}

func TestAllShortPatterns(t *testing.T) {
	for _, c := range []struct {
		of   string
		most int
		held []string
		some int
	}{
		{`a|*?()`, 7, texts("ab", 3), 10000},
		{`ab|*+?().`, 5, texts("ab", 4), 10000},
		{`a[]^-`, 7, texts("a]^-[\\", 1), 5000},
		{`a[]^-\`, 6, texts("a]^-[\\", 1), 3000},
		{"ab*|()[]^-\\.+?{}$", 4, texts("ab-]", 2), 5000},
	} {
		some := 0
		for _, pattern := range texts(c.of, c.most) {
			if asLibrary(t, pattern, c.held) {
				some++
			}
		}
		if some < c.some {
			t.Errorf("of those of %q only %d are patterns", c.of, some)
		}
	}
}

func TestDrawnPatterns(t *testing.T) {
	r := rand.New(rand.NewPCG(11, 1))
	some := 0
	for range 60000 {
		of := l("ab|*+?()[]^-\\.", "ab|*()", "((((((a|)*[", "[]^-\\ab\x80\xff", "a.b[]")[r.IntN(5)]
		pattern := make([]byte, r.IntN(40))
		for i := range pattern {
			pattern[i] = of[r.IntN(len(of))]
		}
		if asLibrary(t, string(pattern), l("", "a", "b", "ab", "aab", "abab", "\x80", "]", "a-b", string(pattern))) {
			some++
		}
	}
	if some < 3000 {
		t.Errorf("only %d are patterns", some)
	}
}

// P11.1: patterns and sets of texts that are drawn together

// most is how long the texts of a set are.
const most = 4

// language is a set of texts of a and b.
type language map[string]bool

// unite is what is of one set or of the other one.
func unite(a, b language) language {
	out := language{}
	for _, have := range []language{a, b} {
		for s := range have {
			out[s] = true
		}
	}
	return out
}

// follow is what begins as one of the one set and ends as one of the other one.
func follow(a, b language) language {
	out := language{}
	for x := range a {
		for y := range b {
			if len(x)+len(y) <= most {
				out[x+y] = true
			}
		}
	}
	return out
}

// again is what is of one or more of a set.
func again(a language) language {
	out := a
	for {
		more := unite(out, follow(out, a))
		if len(more) == len(out) {
			return out
		}
		out = more
	}
}

// drawn is a pattern whose brackets are at most so deep, and its texts.
func drawn(r *rand.Rand, deep int) (string, language) {
	pattern, have := "", language{}
	for i := range 1 + r.IntN(3)*r.IntN(2) {
		row, of := drawnRow(r, deep)
		if i > 0 {
			pattern += "|"
		}
		pattern, have = pattern+row, unite(have, of)
	}
	return pattern, have
}

func drawnRow(r *rand.Rand, deep int) (string, language) {
	pattern, have := "", language{"": true}
	for range r.IntN(5) {
		part, of := drawnPart(r, deep)
		for range r.IntN(2) * (1 + r.IntN(2)) {
			switch r.IntN(3) {
			case 0:
				part, of = part+"*", unite(again(of), language{"": true})
			case 1:
				part, of = part+"+", again(of)
			case 2:
				part, of = part+"?", unite(of, language{"": true})
			}
		}
		pattern, have = pattern+part, follow(have, of)
	}
	return pattern, have
}

func drawnPart(r *rand.Rand, deep int) (string, language) {
	if deep > 1 && r.IntN(3) == 0 {
		pattern, have := drawn(r, deep-1)
		return "(" + pattern + ")", have
	}
	parts := l("a", "b", "c", ".", `\a`, `\b`, `\.`, "[ab]", "[a-c]", "[^a]", "[^b]", "[^ab]", "[]b]", "[-b]", `[\a-\b]`)
	pattern := parts[r.IntN(len(parts))]
	have := language{}
	for _, s := range l("a", "b") {
		if compiled(pattern).MatchString(s) {
			have[s] = true
		}
	}
	return pattern, have
}

func TestDrawnWithTheirTexts(t *testing.T) {
	r := rand.New(rand.NewPCG(11, 2))
	held := texts("ab", most)
	seen := 0
	for range 12000 {
		pattern, have := drawn(r, 1+r.IntN(8))
		if len(pattern) > 64 {
			wrong(t, pattern, api.ErrLimit)
			continue
		}
		seen++
		is := must(t, pattern)
		for _, s := range held {
			if is.Match(s) != have[s] {
				t.Fatalf("%q is all of %q: %t", pattern, s, !have[s])
			}
		}
		var longer []string
		for range 5 {
			longer = append(longer, held[r.IntN(len(held))]+l("a", "b", "ab", "c", "")[r.IntN(5)]+many(held[r.IntN(len(held))], r.IntN(4)))
		}
		asLibrary(t, pattern, longer)
	}
	if seen < 8000 {
		t.Errorf("only %d were short enough", seen)
	}
}

// P11.2

func TestTextsAreThemselves(t *testing.T) {
	r := rand.New(rand.NewPCG(11, 3))
	for range 20000 {
		var text []byte
		for range r.IntN(65) {
			c := byte(r.Uint32())
			if r.IntN(2) == 0 {
				c = "abn\n-,"[r.IntN(6)]
			}
			if strings.IndexByte(special, c) < 0 {
				text = append(text, c)
			}
		}
		s := string(text)
		is(t, s, l(s), l(s+"a", "a"+s, s+"\x00", s+"\n"))
		if s == "" {
			continue
		}
		i := r.IntN(len(s))
		other := slices.Clone(text)
		other[i] ^= 1 << r.IntN(8)
		is(t, s, nil, l("", string(other), s[1:], s[:len(s)-1], s[:i]+s[i+1:], s[:i]+"a"+s[i:]+"b", s+s))
	}
}

func TestRowsOfTwo(t *testing.T) {
	r := rand.New(rand.NewPCG(11, 4))
	held := texts("ab", most)
	seen := 0
	for seen < 3000 {
		one, _ := drawn(r, 1+r.IntN(7))
		two, _ := drawn(r, 1+r.IntN(7))
		row := "(" + one + ")(" + two + ")"
		if len(row) > 64 {
			continue
		}
		seen++
		a, b, both := must(t, one), must(t, two), must(t, row)
		for _, s := range held {
			want := false
			for i := range len(s) + 1 {
				want = want || a.Match(s[:i]) && b.Match(s[i:])
			}
			if both.Match(s) != want {
				t.Fatalf("%q is all of %q: %t", row, s, !want)
			}
		}
	}
}

// R5: nothing is kept from text to text, nor from pattern to pattern.
func TestNothingIsKept(t *testing.T) {
	patterns := l("", "a", "a*", "ab|c", "(a|b)*b", "[^a]+", ".?", "x(ab?)*y")
	held := append(texts("ab", 3), "c", "xy", "xay", "xabaay")
	var rs []Regex
	var want [][]bool
	for _, pattern := range patterns {
		rs = append(rs, must(t, pattern))
		var row []bool
		for _, s := range held {
			row = append(row, compiled(pattern).MatchString(s))
		}
		want = append(want, row)
	}
	r := rand.New(rand.NewPCG(11, 5))
	for range 20000 {
		i, k := r.IntN(len(patterns)), r.IntN(len(held))
		if r.IntN(10) == 0 {
			Parse(l("a(", "[b-a]", patterns[i])[r.IntN(3)])
			rs[i] = must(t, patterns[i])
		}
		other := rs[i]
		if rs[i].Match(held[k]) != want[i][k] || other.Match(held[k]) != want[i][k] {
			t.Fatalf("%q is all of %q: %t", patterns[i], held[k], !want[i][k])
		}
	}
}

// R1: whatever is handed in, each call ends, and none panics.
func TestWhatever(t *testing.T) {
	r := rand.New(rand.NewPCG(11, 6))
	word := func(n int) string {
		b := make([]byte, r.IntN(n))
		for i := range b {
			b[i] = byte(r.Uint32())
			if r.IntN(3) == 0 {
				b[i] = special[r.IntN(len(special))]
			}
		}
		return string(b)
	}
	for range 100000 {
		pattern, s := word(70), word(20)
		is, e := Parse(pattern)
		if is.Match(s) && e != api.OK || e != api.OK && e != api.ErrRegex && e != api.ErrLimit || len(pattern) > 64 && e != api.ErrLimit {
			t.Fatalf("Parse(%q) is %v, %d", pattern, is, e)
		}
	}
}
