package entry

import (
	"bytes"
	"math"
	"math/rand/v2"
	"pluvial/api"
	"pluvial/chunk"
	"pluvial/hist"
	"pluvial/tomb"
	"slices"
	"strconv"
	"strings"
	"testing"
)

// The tests hold the package against bits told as texts of the letters 0 and 1, and, for bytes of any kind, against a second reader of such texts.

const end = 1 << 40

// What changes and images are made of.

// key is labels as a key: a name, a value, a name, a value.
func key(texts ...string) string {
	s := ""
	for _, x := range texts {
		s += string([]byte{byte(len(x))}) + x
	}
	return s
}

// keys are so many, rising.
func keys(long int) []string {
	var l []string
	for i := range long {
		l = append(l, key("a", strconv.Itoa(1000+i)))
	}
	return l
}

// names are so many labels, as a key.
func names(long int) string {
	s := ""
	for i := range long {
		s += key("n"+strconv.Itoa(100+i), "v")
	}
	return s
}

// rightKeys are keys of labels that may be.
func rightKeys() map[string]string {
	long := strings.Repeat("b", 64)
	return map[string]string{
		"of no labels": "", "of one": key("a", "x"), "of two": key("a", "x", "b", "y"), "of just 16": names(16),
		"of long ones": key(long, long), "of any bytes": key("_9Z", "\x00\xff\n\"{"), "of another one's key": key("a", key("b", "y")),
	}
}

// wrongKeys are no keys of labels that may be.
func wrongKeys() map[string]string {
	long := strings.Repeat("b", 65)
	return map[string]string{
		"no key": "a", "a byte 0": "\x00", "two bytes 0": "\x00\x00", "a name alone": "\x01a", "no name": key("", "x"), "no value": key("a", ""),
		"a name with too few bytes": "\x02a", "a value with too few bytes": "\x01a\x02x", "a byte behind": key("a", "x") + "b", "a 0 behind": key("a", "x") + "\x00",
		"a name that begins with a digit": key("1a", "x"), "a name with another byte": key("a-b", "x"), "a name that is too long": key(long, "x"),
		"a value that is too long": key("a", long), "names that are alike": key("a", "x", "a", "y"), "names that fall": key("b", "x", "a", "y"), "17 labels": names(17),
		"a text of labels": `{a="x"}`,
	}
}

// of are buckets by pairs: an index, and how many it has.
func of(pairs ...int) []api.Bucket {
	var l []api.Bucket
	for i := 0; i < len(pairs); i += 2 {
		l = append(l, api.Bucket{Index: pairs[i], Count: uint64(pairs[i+1])})
	}
	return l
}

// run are buckets that follow each other, each with one.
func run(first, long int) []api.Bucket {
	var l []api.Bucket
	for i := range long {
		l = append(l, api.Bucket{Index: first + i, Count: 1})
	}
	return l
}

// counted is a histogram with a Count that is right.
func counted(h api.Hist) api.Hist {
	h.Count = h.Zero
	for _, b := range slices.Concat(h.Pos, h.Neg) {
		h.Count += b.Count
	}
	return h
}

// counter, gauge and fine are histograms: of the schema 0, and of the finest one.
func counter(zero uint64, pos, neg []api.Bucket) api.Hist {
	return counted(api.Hist{Kind: api.Counter, ZeroAt: api.NoZero, Zero: zero, Sum: -int64(zero), Pos: pos, Neg: neg})
}

func gauge(zero uint64, pos, neg []api.Bucket) api.Hist {
	h := counter(zero, pos, neg)
	h.Kind = api.Gauge
	return h
}

func fine(pos, neg []api.Bucket) api.Hist {
	h := gauge(0, pos, neg)
	h.Schema = 8
	return h
}

// empty is a histogram without observations.
func empty() api.Hist { return counter(0, nil, nil) }

// full is one of which nothing is 0.
func full() api.Hist {
	return counted(api.Hist{Kind: api.Gauge, Schema: -1, ZeroAt: -7, Zero: 3, Sum: math.MinInt64, Pos: of(1, 5, 3, 1), Neg: of(2, 2)})
}

// rightHists are histograms that may be.
func rightHists() map[string]api.Hist {
	return map[string]api.Hist{
		"empty": empty(), "a counter": counter(5, of(1, 2), of(3, 4)), "a gauge": gauge(5, of(1, 2), of(3, 4)), "full": full(), "a zero one": {},
		"with all buckets": fine(run(0, 512), run(-100, 512)), "with the greatest count": counter(math.MaxUint64, nil, nil),
		"with lists that are empty": counter(1, []api.Bucket{}, []api.Bucket{}),
	}
}

// wrongHists are histograms that may not be.
func wrongHists(t *testing.T) map[string]api.Hist {
	wrong := map[api.Errno]api.Hist{}
	for _, e := range []api.Errno{api.ErrKind, api.ErrSchema, api.ErrZero, api.ErrLimit, api.ErrRange, api.ErrBucket, api.ErrCount, api.ErrOver} {
		h := counter(5, of(1, 2), of(3, 4))
		switch e {
		case api.ErrKind:
			h.Kind = 2
		case api.ErrSchema:
			h.Schema = 9
		case api.ErrZero:
			h.ZeroAt = 1 << 17
		case api.ErrLimit:
			h.Schema, h.Neg = 8, run(0, 513)
			h = counted(h)
		case api.ErrRange:
			h.Pos = of(1, 1, 1<<10+1, 1)
		case api.ErrBucket:
			h.Pos = of(1, 1, 1, 1)
		case api.ErrCount:
			h.Count++
		case api.ErrOver:
			h.Zero = math.MaxUint64
		}
		wrong[e] = h
	}
	told := map[string]api.Hist{}
	for e, h := range wrong {
		if got := hist.Check(h); got != e {
			t.Fatalf("%v is wrong by %d; want %d", h, got, e)
		}
		told["wrong by "+strconv.Itoa(int(e))] = h
	}
	return told
}

// row are samples, so far apart, from a time on.
func row(from, apart int64, h ...api.Hist) []api.Sample {
	var l []api.Sample
	for i, one := range h {
		l = append(l, api.Sample{T: from + int64(i)*apart, H: one})
	}
	return l
}

// many are so many samples of one histogram, from a time on.
func many(from int64, long int, h api.Hist) []api.Sample {
	return row(from, 1, slices.Repeat([]api.Hist{h}, long)...)
}

// ranges are told by From, To, From, To.
func ranges(ends ...int64) []tomb.Range {
	var l []tomb.Range
	for i := 0; i < len(ends); i += 2 {
		l = append(l, tomb.Range{From: ends[i], To: ends[i+1]})
	}
	return l
}

// set is a set of ranges, told so.
func set(ends ...int64) tomb.Set { return tomb.Of(ranges(ends...)...) }

// dotted are so many ranges of one time each, from a time on, as near as may be.
func dotted(from int64, long int) []tomb.Range {
	var l []tomb.Range
	for i := range int64(long) {
		l = append(l, tomb.Range{From: from + 2*i, To: from + 2*i})
	}
	return l
}

// item and cut are parts of changes, line of images.
func item(key string, t int64, h api.Hist) Item { return Item{Key: key, T: t, H: h} }

func cut(key string, from, to int64) Cut {
	return Cut{Key: key, Range: tomb.Range{From: from, To: to}}
}

func line(key string, last int64, tombs tomb.Set, head ...api.Sample) Line {
	return Line{Key: key, Last: last, Tombs: tombs, Head: head}
}

// batch, cuts and mark are changes of each kind.
func batch(l ...Item) Change { return Change{Kind: 1, Items: l} }

func cuts(l ...Cut) Change { return Change{Kind: 2, Cuts: l} }

func mark(n int64) Change { return Change{Kind: 3, Mark: n} }

// lines is an image that has nothing else.
func lines(l ...Line) Image { return Image{Lines: l} }

// blocks is an image that has nothing else.
func blocks(l ...int) Image { return Image{Blocks: l} }

// What is the same, field by field.

func sameHist(a, b api.Hist) bool {
	return slices.Equal(a.Pos, b.Pos) && slices.Equal(a.Neg, b.Neg) && a.Sum == b.Sum &&
		[3]int{a.Kind, a.Schema, a.ZeroAt} == [3]int{b.Kind, b.Schema, b.ZeroAt} && [2]uint64{a.Zero, a.Count} == [2]uint64{b.Zero, b.Count}
}

func sameSamples(a, b []api.Sample) bool {
	return slices.EqualFunc(a, b, func(x, y api.Sample) bool { return x.T == y.T && sameHist(x.H, y.H) })
}

func sameChange(a, b Change) bool {
	return a.Kind == b.Kind && a.Mark == b.Mark && slices.Equal(a.Cuts, b.Cuts) && slices.EqualFunc(a.Items, b.Items, func(x, y Item) bool {
		return x.Key == y.Key && x.T == y.T && sameHist(x.H, y.H)
	})
}

func sameImage(a, b Image) bool {
	return a.Mark == b.Mark && slices.Equal(a.Blocks, b.Blocks) && slices.EqualFunc(a.Lines, b.Lines, func(x, y Line) bool {
		return x.Key == y.Key && x.Last == y.Last && slices.Equal(x.Tombs.Ranges(), y.Tombs.Ranges()) && sameSamples(x.Head, y.Head)
	})
}

// What is copied, with the room behind the end of each list.

// roomy is a list of its own that is as long as the room of another one.
func roomy[T any](l []T) []T { return slices.Clone(l[:cap(l)]) }

func copiedHist(h api.Hist) api.Hist {
	h.Pos, h.Neg = roomy(h.Pos), roomy(h.Neg)
	return h
}

func copiedSamples(l []api.Sample) []api.Sample {
	l = roomy(l)
	for i := range l {
		l[i].H = copiedHist(l[i].H)
	}
	return l
}

func copiedChange(c Change) Change {
	c.Items, c.Cuts = roomy(c.Items), roomy(c.Cuts)
	for i := range c.Items {
		c.Items[i].H = copiedHist(c.Items[i].H)
	}
	return c
}

func copiedImage(m Image) Image {
	m.Blocks, m.Lines = roomy(m.Blocks), roomy(m.Lines)
	for i := range m.Lines {
		m.Lines[i].Head = copiedSamples(m.Lines[i].Head)
	}
	return m
}

// Bits, by letters.

// classes are how long counts are laid.
var classes = []int{0, 3, 7, 12, 20, 32, 64}

// in is a count's bits, laid in a class.
func in(class int, n uint64) string {
	s := strings.Repeat("1", class)
	if class < 6 {
		s += "0"
	}
	digits := strconv.FormatUint(n, 2)
	if n == 0 {
		digits = ""
	}
	return s + strings.Repeat("0", classes[class]-len(digits)) + digits
}

// classOf is a count's class.
func classOf(n uint64) int {
	for class, long := range classes {
		if long == 64 || n < 1<<long {
			return class
		}
	}
	return 0
}

// count is a count's bits.
func count(n uint64) string { return in(classOf(n), n) }

// counts are several ones', one behind the other.
func counts(l ...uint64) string {
	s := ""
	for _, n := range l {
		s += count(n)
	}
	return s
}

// letters are bytes as bits.
func letters(b []byte) string {
	s := make([]byte, 0, 8*len(b))
	for _, n := range b {
		for i := range 8 {
			s = append(s, '0'+n>>(7-i)&1)
		}
	}
	return string(s)
}

// text is a text's bits.
func text(s string) string { return count(uint64(len(s))) + letters([]byte(s)) }

// chunks are the bits of samples, told chunk by chunk.
func chunks(l ...[]api.Sample) string {
	s := count(uint64(len(l)))
	for _, one := range l {
		b, e := chunk.Encode(one)
		if e != api.OK {
			panic("no chunk: " + strconv.Itoa(int(e)))
		}
		s += text(string(b))
	}
	return s
}

// one is the bits of one sample.
func one(t int64, h api.Hist) string { return chunks(row(t, 1, h)) }

// tombs are the bits of a set's ranges.
func tombs(l ...tomb.Range) string {
	var b strings.Builder
	b.WriteString(count(uint64(len(l))))
	from := int64(0)
	for _, r := range l {
		b.WriteString(counts(uint64(r.From-from), uint64(r.To-r.From)))
		from = r.To + 2
	}
	return b.String()
}

// pack are letters as bytes, with noughts at the end.
func pack(parts ...string) []byte {
	s := strings.Join(parts, "")
	b := make([]byte, (len(s)+7)/8)
	for i := range s {
		if s[i] == '1' {
			b[i/8] |= 128 >> (i % 8)
		}
	}
	return b
}

// brief is the beginning of letters, for a message.
func brief(s string) string { return s[:min(len(s), 300)] }

// toldChange are a change's bits, and toldImage an image's.
func toldChange(c Change) string {
	var b strings.Builder
	switch c.Kind {
	case 1:
		b.WriteString("01" + count(uint64(len(c.Items))))
		for _, x := range c.Items {
			b.WriteString(text(x.Key) + one(x.T, x.H))
		}
	case 2:
		b.WriteString("10" + count(uint64(len(c.Cuts))))
		for _, x := range c.Cuts {
			b.WriteString(text(x.Key) + counts(1, uint64(x.From), uint64(x.To-x.From)))
		}
	case 3:
		b.WriteString("11" + count(uint64(c.Mark)))
	}
	return b.String()
}

func toldImage(m Image) string {
	var b strings.Builder
	b.WriteString(counts(uint64(m.Mark), uint64(len(m.Blocks))))
	for _, n := range m.Blocks {
		b.WriteString(count(uint64(n)))
	}
	b.WriteString(count(uint64(len(m.Lines))))
	for _, x := range m.Lines {
		b.WriteString(text(x.Key) + count(uint64(x.Last)) + tombs(x.Tombs.Ranges()...) + chunks(chunk.Cut(x.Head)...))
	}
	return b.String()
}

// What is asserted.

// checkRising asserts whether samples may be a series', and that they stay as they are.
func checkRising(t *testing.T, what string, l []api.Sample, want bool) {
	t.Helper()
	was := copiedSamples(l)
	if Rising(l) != want {
		t.Errorf("%s: Rising is %t", what, !want)
	}
	if !sameSamples(copiedSamples(l), was) {
		t.Errorf("%s: the samples became %v", what, l)
	}
}

// checkChange asserts that a change may be, is laid by these letters, and read as it was.
func checkChange(t *testing.T, what string, c Change, parts ...string) {
	t.Helper()
	was, want := copiedChange(c), pack(parts...)
	if !Right(c) {
		t.Errorf("%s: it isn't right", what)
	}
	b, e := Encode(c)
	if !bytes.Equal(b, want) || e != api.OK {
		t.Errorf("%s: Encode is %s, %d; want %s", what, brief(letters(b)), e, brief(letters(want)))
	}
	got, e := Decode(want)
	if !sameChange(got, c) || e != api.OK {
		t.Errorf("%s: Decode is %v, %d; want %v", what, got, e, c)
	}
	if !sameChange(copiedChange(c), was) || !bytes.Equal(want, pack(parts...)) {
		t.Errorf("%s: what was handed in is changed", what)
	}
}

// checkWrong asserts that a change may not be.
func checkWrong(t *testing.T, what string, c Change) {
	t.Helper()
	was := copiedChange(c)
	if Right(c) {
		t.Errorf("%s: it is right", what)
	}
	if b, e := Encode(c); len(b) != 0 || e != api.ErrForm {
		t.Errorf("%s: Encode is %s, %d", what, brief(letters(b)), e)
	}
	if !sameChange(copiedChange(c), was) {
		t.Errorf("%s: what was handed in is changed", what)
	}
}

// checkRefused asserts that bytes are no change's.
func checkRefused(t *testing.T, what string, b []byte) {
	t.Helper()
	was := bytes.Clone(b)
	if got, e := Decode(b); !sameChange(got, Change{}) || e != api.ErrForm {
		t.Errorf("%s: Decode is %v, %d", what, got, e)
	}
	if !bytes.Equal(b, was) {
		t.Errorf("%s: the bytes are changed", what)
	}
}

// checkImage, checkUnsound and checkNoImage assert the same of an image.
func checkImage(t *testing.T, what string, m Image, parts ...string) {
	t.Helper()
	was, want := copiedImage(m), pack(parts...)
	if !Sound(m) {
		t.Errorf("%s: it isn't sound", what)
	}
	b, e := Store(m)
	if !bytes.Equal(b, want) || e != api.OK {
		t.Errorf("%s: Store is %s, %d; want %s", what, brief(letters(b)), e, brief(letters(want)))
	}
	got, e := Load(want)
	if !sameImage(got, m) || e != api.OK {
		t.Errorf("%s: Load is %v, %d; want %v", what, got, e, m)
	}
	if !sameImage(copiedImage(m), was) || !bytes.Equal(want, pack(parts...)) {
		t.Errorf("%s: what was handed in is changed", what)
	}
}

func checkUnsound(t *testing.T, what string, m Image) {
	t.Helper()
	was := copiedImage(m)
	if Sound(m) {
		t.Errorf("%s: it is sound", what)
	}
	if b, e := Store(m); len(b) != 0 || e != api.ErrForm {
		t.Errorf("%s: Store is %s, %d", what, brief(letters(b)), e)
	}
	if !sameImage(copiedImage(m), was) {
		t.Errorf("%s: what was handed in is changed", what)
	}
}

func checkNoImage(t *testing.T, what string, b []byte) {
	t.Helper()
	was := bytes.Clone(b)
	if got, e := Load(b); !sameImage(got, Image{}) || e != api.ErrForm {
		t.Errorf("%s: Load is %v, %d", what, got, e)
	}
	if !bytes.Equal(b, was) {
		t.Errorf("%s: the bytes are changed", what)
	}
}

// wrongTimes are none.
func wrongTimes() []int64 {
	return []int64{-1, end + 1, math.MinInt64, math.MaxInt64, math.MinInt64 + 5, -end, 1 << 62}
}

// P15.1

func TestRising(t *testing.T) {
	h := counter(5, of(1, 2), of(3, 4))
	checkRising(t, "none", nil, true)
	checkRising(t, "an empty list", []api.Sample{}, true)
	checkRising(t, "one at 0", row(0, 1, h), true)
	checkRising(t, "one at the end", row(end, 1, h), true)
	checkRising(t, "the ends", row(0, end, h, h), true)
	checkRising(t, "one behind the other", row(7, 1, h, h, h), true)
	checkRising(t, "up to the end", row(end-2, 1, h, h, h), true)
	checkRising(t, "beyond the end", row(end-1, 1, h, h, h), false)
	checkRising(t, "from below 0", row(-1, 1, h, h), false)
	checkRising(t, "times that stay", row(7, 0, h, h), false)
	checkRising(t, "times that go back", row(7, -1, h, h), false)
	checkRising(t, "the last one stays", append(row(7, 1, h, h), api.Sample{T: 8, H: h}), false)
	checkRising(t, "the last one goes back, not behind the first", append(row(7, 5, h, h), api.Sample{T: 9, H: h}), false)
	checkRising(t, "the first two stay", append(row(7, 0, h, h), api.Sample{T: 9, H: h}), false)
	for _, at := range wrongTimes() {
		checkRising(t, "a time", row(at, 1, h), false)
		checkRising(t, "the last time", append(row(3, 1, h, h), api.Sample{T: at, H: h}), false)
		checkRising(t, "the first time", append([]api.Sample{{T: at, H: h}}, row(3, 1, h, h)...), false)
	}
	for what, right := range rightHists() {
		checkRising(t, what, row(3, 1, right), true)
		checkRising(t, what+", in the midst", row(3, 1, h, right, h), true)
	}
	for what, wrong := range wrongHists(t) {
		checkRising(t, what, row(3, 1, wrong), false)
		checkRising(t, what+", first", row(3, 1, wrong, h, h), false)
		checkRising(t, what+", in the midst", row(3, 1, h, wrong, h), false)
		checkRising(t, what+", last", row(3, 1, h, h, wrong), false)
	}
	// What is no chunk may be a series'.
	checkRising(t, "more than a chunk has", many(0, 1000, h), true)
	checkRising(t, "of any kind", row(3, 1, h, full(), empty(), gauge(1, nil, nil), fine(run(0, 512), nil), fine(run(512, 512), nil), h), true)
}

// withRoom has room behind its end that isn't to be touched.
func withRoom[T any](l ...T) []T { return append(slices.Clone(l), l...)[: len(l) : 2*len(l)] }

func TestBatches(t *testing.T) {
	h, a := counter(5, of(1, 2), of(3, 4)), key("a", "x")
	checkChange(t, "one", batch(item(a, 5, h)), "01", count(1), text(a), one(5, h))
	checkChange(t, "two", batch(item(a, 5, h), item(key("b", "y"), 6, full())), "01", count(2), text(a), one(5, h), text(key("b", "y")), one(6, full()))
	checkChange(t, "with room behind", batch(withRoom(item(a, 5, h))...), "01", count(1), text(a), one(5, h))
	// Whether times rise, and keys, a batch doesn't ask.
	checkChange(t, "of one series", batch(item(a, 5, h), item(a, 5, h), item(a, 4, h)), "01", count(3), text(a), one(5, h), text(a), one(5, h), text(a), one(4, h))
	checkChange(t, "keys that fall", batch(item("", 5, h), item(a, 5, h), item("", 5, h)), "01", count(3), "0", one(5, h), text(a), one(5, h), "0", one(5, h))
	c := batch(item(a, 5, h))
	c.Cuts = []Cut{}
	checkChange(t, "an empty list of the other kind", c, "01", count(1), text(a), one(5, h))

	checkWrong(t, "no item", batch())
	checkWrong(t, "an empty list", Change{Kind: 1, Items: []Item{}})
	var l []Item
	for i := range 70 {
		l = append(l, item(key("a", strconv.Itoa(i)), int64(70-i), h))
		switch c := batch(l...); {
		case i < 64:
			checkChange(t, strconv.Itoa(i+1), c, toldChange(c))
		default:
			checkWrong(t, strconv.Itoa(i+1), c)
		}
	}
	for what, k := range rightKeys() {
		checkChange(t, "a key "+what, batch(item(k, 5, h)), "01", count(1), text(k), one(5, h))
	}
	for what, k := range wrongKeys() {
		checkWrong(t, what, batch(item(k, 5, h)))
		checkWrong(t, what+", last", batch(item(a, 5, h), item(a, 6, h), item(k, 7, h)))
		checkWrong(t, what+", first", batch(item(k, 5, h), item(a, 6, h)))
	}
	for _, at := range []int64{0, 1, end - 1, end} {
		checkChange(t, "a time", batch(item(a, at, h)), "01", count(1), text(a), one(at, h))
	}
	for _, at := range wrongTimes() {
		checkWrong(t, "a time", batch(item(a, at, h)))
		checkWrong(t, "the last time", batch(item(a, 5, h), item(a, at, h)))
	}
	for what, right := range rightHists() {
		checkChange(t, what, batch(item(a, 5, right)), "01", count(1), text(a), one(5, right))
	}
	for what, wrong := range wrongHists(t) {
		checkWrong(t, what, batch(item(a, 5, wrong)))
		checkWrong(t, what+", last", batch(item(a, 5, h), item(a, 6, wrong)))
	}
}

func TestDeletes(t *testing.T) {
	a, b := key("a", "x"), key("b", "x")
	checkChange(t, "no cut", cuts(), "10", count(0))
	checkChange(t, "an empty list", Change{Kind: 2, Cuts: []Cut{}, Items: []Item{}}, "10", count(0))
	checkChange(t, "one", cuts(cut(a, 3, 9)), "10", count(1), text(a), counts(1, 3, 6))
	checkChange(t, "two", cuts(cut(a, 3, 9), cut(b, 0, 0)), "10", count(2), text(a), counts(1, 3, 6), text(b), counts(1, 0, 0))
	checkChange(t, "with room behind", cuts(withRoom(cut(a, 3, 9))...), "10", count(1), text(a), counts(1, 3, 6))
	var l []Cut
	for i, k := range keys(70) {
		l = append(l, cut(k, int64(i), 70))
		switch c := cuts(l...); {
		case i < 64:
			checkChange(t, strconv.Itoa(i+1), c, toldChange(c))
		default:
			checkWrong(t, strconv.Itoa(i+1), c)
		}
	}
	for what, k := range rightKeys() {
		checkChange(t, "a key "+what, cuts(cut(k, 3, 9)), "10", count(1), text(k), counts(1, 3, 6))
	}
	for what, k := range wrongKeys() {
		checkWrong(t, what, cuts(cut(k, 3, 9)))
		checkWrong(t, what+", last", cuts(cut("", 3, 9), cut(k, 3, 9)))
		checkWrong(t, what+", first", cuts(cut(k, 3, 9), cut(key("zzz", strings.Repeat("z", 64)), 3, 9)))
	}
	for _, x := range []struct {
		what string
		keys []string
		want bool
	}{
		{"the key of no labels first", []string{"", a}, true},
		{"the key of no labels last", []string{a, ""}, false},
		{"the key of no labels twice", []string{"", ""}, false},
		{"alike", []string{a, a}, false},
		{"they fall", []string{b, a}, false},
		{"alike behind one", []string{a, b, b}, false},
		{"the last one falls, not below the first", []string{a, key("c", "x"), b}, false},
		{"the first two fall", []string{b, a, key("c", "x")}, false},
		{"by values", []string{key("a", "x"), key("a", "y")}, true},
		{"by values, falling", []string{key("a", "y"), key("a", "x")}, false},
		{"one goes on", []string{key("a", "x"), key("a", "x", "b", "y")}, true},
		{"one goes on, falling", []string{key("a", "x", "b", "y"), key("a", "x")}, false},
		// They rise byte by byte, the one that tells how long a name is first.
		{"by how long names are", []string{key("b", "x"), key("aa", "x")}, true},
		{"by how long names are, falling", []string{key("aa", "x"), key("b", "x")}, false},
		{"by bytes above 127", []string{key("a", "\x7f"), key("a", "\x80"), key("a", "\xff")}, true},
		{"by bytes above 127, falling", []string{key("a", "\x80"), key("a", "\x7f")}, false},
	} {
		var c Change
		var m Image
		for _, k := range x.keys {
			c.Cuts = append(c.Cuts, cut(k, 3, 9))
			m.Lines = append(m.Lines, line(k, 9, tomb.Set{}))
		}
		c.Kind = Delete
		if x.want {
			checkChange(t, x.what, c, toldChange(c))
			checkImage(t, x.what, m, toldImage(m))
		} else {
			checkWrong(t, x.what, c)
			checkUnsound(t, x.what, m)
		}
	}
	for _, r := range ranges(0, 0, 0, 1, 5, 5, 5, 6, 0, end, end, end, end-1, end) {
		checkChange(t, "a range", cuts(cut(a, r.From, r.To)), "10", count(1), text(a), counts(1, uint64(r.From), uint64(r.To-r.From)))
	}
	for _, r := range ranges(-1, -1, -1, 5, 6, 5, 1, 0, end, end-1, 0, end+1, end+1, end+1, end, end+1, math.MinInt64, math.MaxInt64, math.MaxInt64, math.MinInt64, 0, -1, -end, 0) {
		checkWrong(t, "a range", cuts(cut(a, r.From, r.To)))
		checkWrong(t, "the last range", cuts(cut(a, 3, 9), cut(b, r.From, r.To)))
		checkWrong(t, "the first range", cuts(cut(a, r.From, r.To), cut(b, 3, 9)))
	}
	if c := cut(a, 3, 9); c.From != 3 || c.To != 9 || c.Range != (tomb.Range{From: 3, To: 9}) {
		t.Errorf("a cut is %v", c)
	}
}

func TestRetains(t *testing.T) {
	for _, n := range []int64{0, 1, 5, 7, 8, 127, 128, 1 << 20, 1 << 32, end - 1, end} {
		checkChange(t, "a mark", mark(n), "11", count(uint64(n)))
	}
	checkChange(t, "empty lists", Change{Kind: 3, Mark: 5, Items: []Item{}, Cuts: []Cut{}}, "11", count(5))
	for _, n := range wrongTimes() {
		checkWrong(t, "a mark", mark(n))
	}
}

func TestKinds(t *testing.T) {
	if Batch != 1 || Delete != 2 || Retain != 3 {
		t.Errorf("the kinds are %d, %d, %d", Batch, Delete, Retain)
	}
	h, a := empty(), key("a", "x")
	items, cutOut := []Item{item(a, 5, h)}, []Cut{cut(a, 3, 9)}
	checkWrong(t, "a zero change", Change{})
	for _, kind := range []int{0, -1, -2, -3, 4, 5, 6, 7, 9, 255, 257, 1<<32 + 1, 1<<32 + 2, 1<<32 + 3, math.MaxInt, math.MinInt, math.MinInt + 1} {
		checkWrong(t, "items of no kind", Change{Kind: kind, Items: items})
		checkWrong(t, "cuts of no kind", Change{Kind: kind, Cuts: cutOut})
		checkWrong(t, "a mark of no kind", Change{Kind: kind, Mark: 5})
		checkWrong(t, "nothing of no kind", Change{Kind: kind})
	}
	// All else is 0: also where it would be of no kind.
	for _, n := range append(wrongTimes(), 1, 5, end) {
		checkWrong(t, "a batch with a mark", Change{Kind: Batch, Items: items, Mark: n})
		checkWrong(t, "a delete with a mark", Change{Kind: Delete, Cuts: cutOut, Mark: n})
		checkWrong(t, "a delete with nothing but a mark", Change{Kind: Delete, Mark: n})
	}
	for _, some := range [][]Item{items, {{}}, {item("a", -1, h)}, slices.Repeat(items, 65)} {
		checkWrong(t, "a delete with items", Change{Kind: Delete, Cuts: cutOut, Items: some})
		checkWrong(t, "a delete with nothing but items", Change{Kind: Delete, Items: some})
		checkWrong(t, "a retain with items", Change{Kind: Retain, Mark: 5, Items: some})
		checkWrong(t, "a retain with nothing but items", Change{Kind: Retain, Items: some})
	}
	for _, some := range [][]Cut{cutOut, {{}}, {cut("a", 9, 3)}, slices.Repeat(cutOut, 65)} {
		checkWrong(t, "a batch with cuts", Change{Kind: Batch, Items: items, Cuts: some})
		checkWrong(t, "a batch with nothing but cuts", Change{Kind: Batch, Cuts: some})
		checkWrong(t, "a retain with cuts", Change{Kind: Retain, Mark: 5, Cuts: some})
		checkWrong(t, "a retain with nothing but cuts", Change{Kind: Retain, Cuts: some})
	}
}

func TestImageBlocks(t *testing.T) {
	checkImage(t, "a zero image", Image{}, "000")
	checkImage(t, "empty lists", Image{Blocks: []int{}, Lines: []Line{}}, counts(0, 0, 0))
	for _, n := range []int64{0, 1, 5, end - 1, end} {
		checkImage(t, "a mark", Image{Mark: n}, counts(uint64(n), 0, 0))
	}
	for _, n := range wrongTimes() {
		checkUnsound(t, "a mark", Image{Mark: n})
	}
	checkImage(t, "one block", blocks(7), counts(0, 1, 7, 0))
	checkImage(t, "0", blocks(0), counts(0, 1, 0, 0))
	checkImage(t, "the greatest number", blocks(65536), counts(0, 1, 65536, 0))
	checkImage(t, "both", blocks(0, 65536), counts(0, 2, 0, 65536, 0))
	checkImage(t, "rising", Image{Mark: 9, Blocks: []int{3, 4, 100}}, counts(9, 3, 3, 4, 100, 0))
	checkImage(t, "with room behind", blocks(withRoom(3, 4)...), counts(0, 2, 3, 4, 0))
	for _, n := range []int{-1, 65537, math.MinInt, math.MaxInt, 1 << 17, -65536} {
		checkUnsound(t, "a number", blocks(n))
		checkUnsound(t, "the last number", blocks(3, n))
		checkUnsound(t, "the first number", blocks(n, 3))
	}
	checkUnsound(t, "alike", blocks(3, 3))
	checkUnsound(t, "alike, 0", blocks(0, 0))
	checkUnsound(t, "falling", blocks(4, 3))
	checkUnsound(t, "the last ones alike", blocks(1, 3, 3))
	checkUnsound(t, "the first ones alike", blocks(3, 3, 4))
	checkUnsound(t, "the last one falls, not below the first", blocks(1, 5, 3))
	for _, long := range []int{255, 256, 257, 300} {
		var m Image
		for i := range long {
			m.Blocks = append(m.Blocks, 65536-long+1+i)
		}
		if long <= 256 {
			checkImage(t, strconv.Itoa(long), m, toldImage(m))
		} else {
			checkUnsound(t, strconv.Itoa(long), m)
		}
	}
}

func TestImageLines(t *testing.T) {
	h, a := counter(5, of(1, 2), of(3, 4)), key("a", "x")
	checkImage(t, "a zero line", lines(Line{}), counts(0, 0, 1), counts(0, 0, 0, 0))
	checkImage(t, "an empty head", lines(Line{Head: []api.Sample{}}), counts(0, 0, 1), counts(0, 0, 0, 0))
	checkImage(t, "one line", lines(line(a, 9, set(1, 3, 7, 7), row(5, 1, h, h)...)),
		counts(0, 0, 1), text(a), count(9), counts(2, 1, 2, 2, 0), chunks(row(5, 1, h, h)))
	checkImage(t, "two lines", Image{Mark: 8, Blocks: []int{6}, Lines: []Line{line("", 5, tomb.Set{}, row(5, 1, full())...), line(a, 12, set(0, 12))}},
		counts(8, 1, 6, 2), "0", count(5), "0", one(5, full()), text(a), count(12), counts(1, 0, 12), "0")
	checkImage(t, "with room behind", lines(withRoom(line(a, 9, tomb.Set{}, withRoom(row(5, 1, h)...)...))...), counts(0, 0, 1), text(a), count(9), "0", one(5, h))
	var l []Line
	for i, k := range keys(70) {
		l = append(l, line(k, int64(i), tomb.Set{}, row(int64(i), 1, h)...))
		switch m := lines(l...); {
		case i < 64:
			checkImage(t, strconv.Itoa(i+1), m, toldImage(m))
		default:
			checkUnsound(t, strconv.Itoa(i+1), m)
		}
	}
	for what, k := range rightKeys() {
		checkImage(t, "a key "+what, lines(line(k, 9, tomb.Set{})), counts(0, 0, 1), text(k), counts(9, 0, 0))
	}
	for what, k := range wrongKeys() {
		checkUnsound(t, what, lines(line(k, 9, tomb.Set{})))
		checkUnsound(t, what+", last", lines(line("", 9, tomb.Set{}), line(k, 9, tomb.Set{})))
		checkUnsound(t, what+", first", lines(line(k, 9, tomb.Set{}), line(key("zzz", strings.Repeat("z", 64)), 9, tomb.Set{})))
	}
	for _, last := range []int64{0, 1, 9, end - 1, end} {
		checkImage(t, "a Last", lines(line(a, last, tomb.Set{})), counts(0, 0, 1), text(a), counts(uint64(last), 0, 0))
		checkImage(t, "a Last, and all behind it is gone", lines(line(a, last, set(0, last))), counts(0, 0, 1), text(a), counts(uint64(last), 1, 0, uint64(last), 0))
	}
	for _, last := range wrongTimes() {
		checkUnsound(t, "a Last", lines(line(a, last, tomb.Set{})))
		checkUnsound(t, "the second Last", lines(line("", 5, tomb.Set{}), line(a, last, tomb.Set{})))
		checkUnsound(t, "a Last, and a head", lines(line(a, last, tomb.Set{}, row(0, 1, h)...)))
	}
}

func TestImageHeads(t *testing.T) {
	h, less, a := counter(5, of(1, 2), of(3, 4)), counter(4, of(1, 2), of(3, 4)), key("a", "x")
	// Told by how many samples each chunk has.
	for _, x := range []struct {
		what string
		head []api.Sample
		long []int
	}{
		{"none", nil, nil},
		{"one", row(5, 1, h), []int{1}},
		{"a whole chunk", many(5, 32, h), []int{32}},
		{"one more", many(5, 33, h), []int{32, 1}},
		{"three chunks", many(5, 64+17, h), []int{32, 32, 17}},
		{"very many", many(5, 1000, gauge(1, nil, nil)), append(slices.Repeat([]int{32}, 31), 8)},
		{"a counter that was reset", row(5, 7, h, less, h, h, less), []int{1, 3, 1}},
		{"of other kinds", row(5, 1, h, full(), full(), empty()), []int{1, 2, 1}},
		{"too many buckets for one", row(5, 1, fine(run(0, 300), nil), fine(run(300, 212), nil), fine(run(512, 1), nil)), []int{2, 1}},
	} {
		told := count(uint64(len(x.long)))
		rest := x.head
		for _, n := range x.long {
			told += strings.TrimPrefix(chunks(rest[:n]), count(1))
			rest = rest[n:]
		}
		last := int64(5)
		if len(x.head) > 0 {
			last = x.head[len(x.head)-1].T
		}
		for _, more := range []int64{0, 1, 1000, end - last} {
			m := lines(line(a, last+more, tomb.Set{}, x.head...))
			checkImage(t, x.what, m, counts(0, 0, 1), text(a), count(uint64(last+more)), "0", told)
		}
		if len(x.head) > 0 {
			for _, at := range []int64{last - 1, 0, 5 - 1} {
				checkUnsound(t, x.what+", behind Last", lines(line(a, at, tomb.Set{}, x.head...)))
			}
		}
	}
	for _, at := range []int64{0, end} {
		checkImage(t, "the ends", lines(line(a, at, tomb.Set{}, row(at, 1, h)...)), counts(0, 0, 1), text(a), count(uint64(at)), "0", one(at, h))
	}
	for what, l := range map[string][]api.Sample{
		"times that stay": row(7, 0, h, h), "times that go back": row(7, -1, h, h), "the last one stays": append(row(7, 1, h, h), api.Sample{T: 8, H: h}),
		"the last one goes back": append(row(7, 9, h, h), api.Sample{T: 9, H: h}), "the last time": row(end, 1, h, h), "the first time": row(-1, 1, h, h),
		"one behind Last in the midst": append(row(end-9, 10, h, h), api.Sample{T: end - 5, H: h}), "behind all times": row(end+1, 1, h),
	} {
		checkUnsound(t, what, lines(line(a, end, tomb.Set{}, l...)))
		checkUnsound(t, what+", in the second line", lines(line("", end, tomb.Set{}, row(5, 1, h)...), line(a, end, tomb.Set{}, l...)))
	}
	for what, wrong := range wrongHists(t) {
		checkUnsound(t, what, lines(line(a, 99, tomb.Set{}, row(5, 1, wrong)...)))
		checkUnsound(t, what+", last", lines(line(a, 99, tomb.Set{}, row(5, 1, h, h, wrong)...)))
	}
	for what, right := range rightHists() {
		checkImage(t, what, lines(line(a, 99, tomb.Set{}, row(5, 1, right)...)), counts(0, 0, 1), text(a), count(99), "0", one(5, right))
	}
}

func TestImageTombs(t *testing.T) {
	h, a := counter(5, of(1, 2), of(3, 4)), key("a", "x")
	head := row(10, 5, h, h, h)
	for _, x := range []struct {
		what  string
		last  int64
		tombs []tomb.Range
		want  bool
	}{
		{"none", 20, nil, true},
		{"ahead of the head", 20, ranges(0, 3), true},
		{"touching the first one", 20, ranges(0, 9), true},
		{"touching each one", 30, ranges(0, 9, 11, 14, 16, 19, 21, 30), true},
		{"touching the last one", 30, ranges(21, 21), true},
		{"at Last, behind the head", 30, ranges(30, 30), true},
		{"up to Last, behind the head", 30, ranges(25, 30), true},
		{"one behind Last", 30, ranges(31, 31), false},
		{"to one behind Last", 30, ranges(25, 31), false},
		{"to one behind Last, which the head ends at", 20, ranges(21, 21), false},
		{"far behind Last", 30, ranges(end, end), false},
		{"from Last on", 30, ranges(30, end), false},
		{"one up to Last, one behind it", 30, ranges(25, 28, 31, 31), false},
		{"the first one of the head", 30, ranges(10, 10), false},
		{"the midst of the head", 30, ranges(15, 15), false},
		{"the last one of the head", 30, ranges(20, 20), false},
		{"up to the first one", 30, ranges(0, 10), false},
		{"from the last one on", 30, ranges(20, 30), false},
		{"to the midst", 30, ranges(11, 15), false},
		{"from the midst", 30, ranges(15, 19), false},
		{"over all", 30, ranges(0, 30), false},
		{"over one in the midst", 30, ranges(11, 19), false},
		{"by the second range", 30, ranges(0, 3, 14, 16), false},
	} {
		m := lines(line(a, x.last, tomb.Of(x.tombs...), head...))
		second := lines(line("", end, set(0, end)), line(a, x.last, tomb.Of(x.tombs...), head...))
		if x.want {
			checkImage(t, x.what, m, counts(0, 0, 1), text(a), count(uint64(x.last)), tombs(x.tombs...), chunks(head))
			checkImage(t, x.what+", second", second, counts(0, 0, 2), "0", counts(end, 1, 0, end, 0), text(a), count(uint64(x.last)), tombs(x.tombs...), chunks(head))
			continue
		}
		checkUnsound(t, x.what, m)
		checkUnsound(t, x.what+", second", second)
		// What may not be isn't read, though it is laid as the chapter says.
		checkNoImage(t, x.what, pack(counts(0, 0, 1), text(a), count(uint64(x.last)), tombs(x.tombs...), chunks(head)))
	}
	checkImage(t, "0 alone", lines(line(a, 0, set(0, 0))), counts(0, 0, 1), text(a), counts(0, 1, 0, 0, 0))
	checkUnsound(t, "behind 0", lines(line(a, 0, set(0, 1))))
	checkImage(t, "all times", lines(line(a, end, set(0, end))), counts(0, 0, 1), text(a), counts(end, 1, 0, end, 0))
	// Of each line by itself.
	checkUnsound(t, "behind its own Last", lines(line("", 30, set(25, 30)), line(a, 20, set(25, 30))))
	checkImage(t, "another line's head", lines(line("", 30, set(15, 30)), line(a, 30, tomb.Set{}, head...)), counts(0, 0, 2), "0", counts(30, 1, 15, 15, 0), text(a), counts(30, 0), chunks(head))
}

func TestManyTombs(t *testing.T) {
	h, a := empty(), key("a", "x")
	for _, long := range []int{65535, 65536, 65537} {
		l := dotted(1, long)
		head := row(2*int64(long)+1, 1, h)
		m := lines(line(a, end, tomb.Of(l...), head...))
		told := []string{counts(0, 0, 1), text(a), count(end), tombs(l...), chunks(head)}
		if long <= 65536 {
			checkImage(t, strconv.Itoa(long), m, told...)
			continue
		}
		checkUnsound(t, strconv.Itoa(long), m)
		checkNoImage(t, strconv.Itoa(long), pack(told...))
	}
}

// P15.2

func TestToldByLetters(t *testing.T) {
	// A counter's chunk of one empty sample at 0: schema 0, ZeroAt -2^19, no layouts, no more samples, and noughts.
	nothing := "0" + "0100" + "11110" + strings.Repeat("1", 20) + "0" + "0" + "0" + "0" + "0" + "0"
	checkChange(t, "a batch", batch(item("", 0, empty())), "01", "10001", "0", "10001", "10101", nothing, "0000")
	checkChange(t, "a batch with a key", batch(item("\x01a\x01x", 0, empty())),
		"01", "10001", "10100", "00000001"+"01100001"+"00000001"+"01111000", "10001", "10101", nothing, "0000")
	checkChange(t, "a delete", cuts(cut("\x01a\x01x", 3, 12)), "10", "10001", "10100", "00000001"+"01100001"+"00000001"+"01111000", "10001", "10011", "1100001001")
	checkChange(t, "a delete of nothing", cuts(), "10000000")
	checkChange(t, "a retain", mark(5), "11", "10101", "0")
	checkChange(t, "a retain of 0", mark(0), "11000000")
	checkChange(t, "a retain of all", mark(end), "11", "111111", "0000000000000000000000010000000000000000000000000000000000000000")
	checkImage(t, "nothing", Image{}, "00000000")
	checkImage(t, "a mark and blocks", Image{Mark: 9, Blocks: []int{0, 7}}, "1100001001", "10010", "0", "10111", "0")
	checkImage(t, "a line", lines(line("", 2, set(1, 1), row(0, 1, empty())...)), "0", "0", "10001", "0", "10010", "10001"+"10001"+"0", "10001", "10101", nothing, "0000")
}

// part is bits in three: those that are right, a count that is wrong, and what should stand behind.
type part struct {
	what               string
	ahead, wrong, rear string
	// far: it is wrong whatever stands behind, also noughts.
	far bool
}

// wrongCounts are parts in which a count is laid longer than need be, or says another number than it should.
func wrongCounts(what, ahead string, n uint64, behind string) []part {
	var l []part
	for class := classOf(n) + 1; class < len(classes); class++ {
		l = append(l, part{what + ", laid longer", ahead, in(class, n), behind, true})
	}
	for _, other := range []uint64{0, n - 1, n + 1, n + 1000, 1 << 31, 1<<40 + 1, 1 << 63, math.MaxUint64} {
		if other != n {
			l = append(l, part{what + ", another one", ahead, count(other), behind, other >= n+1000})
		}
	}
	return l
}

func TestWrongCounts(t *testing.T) {
	h, a, b := counter(5, of(1, 2), of(3, 4)), key("a", "x"), key("b", "x")
	sealed, _ := chunk.Encode(row(5, 1, h))
	in1, in2 := text(a)+one(5, h), text(b)+one(7, h)
	raw := letters([]byte(a))
	for _, l := range [][]part{
		wrongCounts("items", "01", 2, in1+in2),
		wrongCounts("bytes of a key", "01"+count(1), uint64(len(a)), raw+one(5, h)),
		wrongCounts("bytes of the last key", "01"+count(2)+in1, uint64(len(b)), letters([]byte(b))+one(7, h)),
		wrongCounts("chunks of an item", "01"+count(1)+text(a), 1, text(string(sealed))),
		wrongCounts("bytes of a chunk", "01"+count(1)+text(a)+count(1), uint64(len(sealed)), letters(sealed)),
		wrongCounts("cuts", "10", 2, text(a)+counts(1, 3, 6)+text(b)+counts(1, 3, 6)),
		wrongCounts("ranges of a cut", "10"+count(1)+text(a), 1, counts(3, 6)),
	} {
		for _, x := range l {
			checkRefused(t, x.what, pack(x.ahead, x.wrong, x.rear))
			if x.far {
				checkRefused(t, x.what+", and nothing behind", pack(x.ahead, x.wrong))
			}
		}
	}
	for class := 2; class < len(classes); class++ {
		checkRefused(t, "a From that is laid longer", pack("10", count(1), text(a), count(1), in(class, 3), count(6)))
		checkRefused(t, "a To that is laid longer", pack("10", count(1), text(a), counts(1, 3), in(class, 6)))
		checkRefused(t, "a mark that is laid longer", pack("11", in(class, 5)))
		checkNoImage(t, "a mark that is laid longer", pack(in(class, 5), counts(0, 0)))
		checkNoImage(t, "a block that is laid longer", pack(counts(0, 1), in(class, 5), count(0)))
		checkNoImage(t, "a Last that is laid longer", pack(counts(0, 0, 1), text(a), in(class, 5), counts(0, 0)))
		checkNoImage(t, "a From that is laid longer", pack(counts(0, 0, 1), text(a), counts(9, 1), in(class, 3), counts(6, 0)))
	}
	body := text(a) + counts(9, 1, 1, 3) + one(5, h)
	for _, l := range [][]part{
		wrongCounts("blocks", count(0), 2, counts(3, 4)+count(1)+body),
		wrongCounts("lines", counts(0, 0), 1, body),
		wrongCounts("bytes of a line's key", counts(0, 0, 1), uint64(len(a)), raw+counts(9, 0)+one(5, h)),
		wrongCounts("ranges", counts(0, 0, 1)+text(a)+count(9), 2, counts(0, 0, 0, 0)+one(5, h)),
		wrongCounts("chunks of a head", counts(0, 0, 1)+text(a)+counts(9, 0), 1, text(string(sealed))),
		wrongCounts("bytes of a head's chunk", counts(0, 0, 1)+text(a)+counts(9, 0, 1), uint64(len(sealed)), letters(sealed)),
	} {
		for _, x := range l {
			checkNoImage(t, x.what, pack(x.ahead, x.wrong, x.rear))
			if x.far {
				checkNoImage(t, x.what+", and nothing behind", pack(x.ahead, x.wrong))
			}
		}
	}
}

func TestNoChange(t *testing.T) {
	h, a, b := counter(5, of(1, 2), of(3, 4)), key("a", "x"), key("b", "x")
	good := text(a) + one(5, h)
	checkRefused(t, "no byte", nil)
	checkRefused(t, "an empty list", []byte{})
	for _, rest := range []string{"", "0", count(5), count(1) + good, "000000", "111111"} {
		checkRefused(t, "the kind 0", pack("00", rest))
	}
	checkRefused(t, "no item", pack("01", count(0)))
	checkRefused(t, "an item alone, of two", pack("01", count(2), good))
	for _, long := range []int{65, 66, 1000} {
		checkRefused(t, "too many items", pack("01", count(uint64(long)), strings.Repeat(good, long)))
	}
	for what, k := range wrongKeys() {
		checkRefused(t, what, pack("01", count(1), text(k), one(5, h)))
		checkRefused(t, what+", behind another one", pack("01", count(2), good, text(k), one(5, h)))
		checkRefused(t, what+", of a cut", pack("10", count(1), text(k), counts(1, 3, 6)))
	}
	head := row(5, 1, h, h)
	sealed, _ := chunk.Encode(head[:1])
	for what, s := range map[string]string{
		"no chunk": count(0), "a chunk of two": chunks(head), "two chunks": chunks(head[:1], head[1:]), "an empty chunk": count(1) + text(""),
		"a chunk with a byte less": count(1) + text(string(sealed[:len(sealed)-1])), "a chunk with a byte more": count(1) + text(string(sealed)+"\x00"),
		"a chunk of other bytes": count(1) + text("abc"), "a chunk, and an empty one": count(2) + text(string(sealed)) + text(""), "a chunk that isn't there": count(1),
	} {
		checkRefused(t, what, pack("01", count(1), text(a), s))
		checkRefused(t, what+", ahead of another item", pack("01", count(2), text(a), s, good))
		checkRefused(t, what+", behind another item", pack("01", count(2), good, text(a), s))
	}
	var too []string
	for _, k := range keys(65) {
		too = append(too, text(k)+counts(1, 3, 6))
	}
	checkRefused(t, "too many cuts", pack("10", count(65), strings.Join(too, "")))
	checkRefused(t, "cuts that fall", pack("10", count(2), text(b), counts(1, 3, 6), text(a), counts(1, 3, 6)))
	checkRefused(t, "cuts that are alike", pack("10", count(2), text(a), counts(1, 3, 6), text(a), counts(1, 3, 6)))
	for what, s := range map[string]string{
		"no range": counts(0), "two ranges": counts(2, 3, 6, 0, 0), "a From above": counts(1, end+1, 0), "a To above": counts(1, end, 1),
		"a From that would go round": counts(1, math.MaxUint64, 0), "a To that would go round": counts(1, 5, math.MaxUint64-4), "nothing": "",
	} {
		checkRefused(t, what, pack("10", count(1), text(a), s))
		checkRefused(t, what+", ahead of another cut", pack("10", count(2), text(a), s, text(b), counts(1, 3, 6)))
	}
	for _, n := range []uint64{end + 1, 1 << 62, 1 << 63, math.MaxUint64, math.MaxUint64 - 4} {
		checkRefused(t, "a mark", pack("11", count(n)))
	}
	checkRefused(t, "a mark that isn't there", pack("11", "11111"))
	checkRefused(t, "a 1 behind", pack("11", count(5), "1"))
	checkRefused(t, "a byte behind", pack("11", count(5), strings.Repeat("0", 9)))
	checkRefused(t, "a mark behind", pack("11", counts(5, 5)))
}

func TestNoImage(t *testing.T) {
	h, a, b := counter(5, of(1, 2), of(3, 4)), key("a", "x"), key("b", "x")
	ahead := counts(0, 0, 1)
	checkNoImage(t, "no byte", nil)
	checkNoImage(t, "an empty list", []byte{})
	checkNoImage(t, "a byte behind", pack(counts(0, 0, 0), "0000000000000"))
	checkNoImage(t, "a 1 behind", pack(counts(0, 0, 0), "00001"))
	checkNoImage(t, "a mark alone", pack(count(200)[:8]))
	for _, n := range []uint64{end + 1, 1 << 62, 1 << 63, math.MaxUint64} {
		checkNoImage(t, "a mark", pack(counts(n, 0, 0)))
		checkNoImage(t, "a block", pack(counts(0, 1, n, 0)))
		checkNoImage(t, "a Last", pack(ahead, text(a), counts(n, 0, 0)))
		checkNoImage(t, "a range", pack(ahead, text(a), counts(9, 1, n, 0, 0)))
	}
	checkNoImage(t, "the number one above", pack(counts(0, 1, 65537, 0)))
	checkNoImage(t, "numbers that fall", pack(counts(0, 2, 4, 3, 0)))
	checkNoImage(t, "numbers that are alike", pack(counts(0, 2, 4, 4, 0)))
	var numbers []uint64
	for i := range uint64(257) {
		numbers = append(numbers, i)
	}
	checkNoImage(t, "too many blocks", pack(counts(0, 257), counts(numbers...), count(0)))
	var some []string
	for _, k := range keys(65) {
		some = append(some, text(k)+counts(9, 0, 0))
	}
	checkNoImage(t, "too many lines", pack(counts(0, 0, 65), strings.Join(some, "")))
	checkNoImage(t, "lines that fall", pack(counts(0, 0, 2), text(b), counts(9, 0, 0), text(a), counts(9, 0, 0)))
	checkNoImage(t, "lines that are alike", pack(counts(0, 0, 2), text(a), counts(9, 0, 0), text(a), counts(9, 0, 0)))
	for what, k := range wrongKeys() {
		checkNoImage(t, what, pack(ahead, text(k), counts(9, 0, 0)))
	}
	l := many(5, 33, h)
	sealed, _ := chunk.Encode(l[:32])
	for what, s := range map[string]string{
		"less in the first chunk": chunks(l[:31], l[31:]), "each by itself": chunks(l[:1], l[1:2]), "the second one ahead": chunks(l[32:], l[:32]),
		"one chunk twice": chunks(l[:3], l[:3]), "an empty chunk behind": count(2) + text(string(sealed)) + text(""), "an empty chunk": count(1) + text(""),
		"a chunk with a byte less": count(1) + text(string(sealed[:len(sealed)-1])), "a chunk with a byte more": count(1) + text(string(sealed)+"\x00"),
		"chunks that stay": chunks(l[:32], l[31:]), "chunks that go back": chunks(l[3:], l[:2]), "a head behind Last": chunks(l[:32], many(37, 2, h)),
	} {
		checkNoImage(t, what, pack(ahead, text(a), counts(37, 0), s))
		checkNoImage(t, what+", ahead of another line", pack(counts(0, 0, 2), text(a), counts(37, 0), s, text(b), counts(9, 0, 0)))
	}
	checkImage(t, "as it should be", lines(line(a, 37, tomb.Set{}, l...)), ahead, text(a), counts(37, 0), chunks(l[:32], l[32:]))
}

// A second reader, of letters.

// reader takes letters; bad: they aren't such as should be there.
type reader struct {
	text string
	bad  bool
}

// get takes so many letters, as a number.
func (p *reader) get(n int) uint64 {
	if p.bad || n > len(p.text) {
		p.bad = true
		return 0
	}
	v := uint64(0)
	for _, x := range p.text[:n] {
		v = 2*v + uint64(x-'0')
	}
	p.text = p.text[n:]
	return v
}

// count takes a count of at most so many.
func (p *reader) count(most uint64) uint64 {
	class := 0
	for class < 6 && p.get(1) == 1 {
		class++
	}
	n := p.get(classes[class])
	if p.bad || n > most || classOf(n) != class {
		p.bad = true
		return 0
	}
	return n
}

// key takes a key of labels that may be.
func (p *reader) key() string {
	var b []byte
	for range p.count(uint64(len(p.text))) {
		b = append(b, byte(p.get(8)))
		if p.bad {
			return ""
		}
	}
	p.bad = p.bad || !mayKey(string(b))
	return string(b)
}

// mayKey says whether a text is a key of labels that may be.
func mayKey(s string) bool {
	var l []string
	for s != "" {
		n := int(s[0])
		if n < 1 || n > 64 || n >= len(s) {
			return false
		}
		l, s = append(l, s[1:n+1]), s[n+1:]
	}
	for i, x := range l {
		if i%2 == 1 {
			continue
		}
		if i > 0 && x <= l[i-2] || strings.Trim(x, "abcdefghijklmnopqrstuvwxyzABCDEFGHIJKLMNOPQRSTUVWXYZ_0123456789") != "" || strings.Contains("0123456789", x[:1]) {
			return false
		}
		for _, c := range []byte(x) {
			if !strings.Contains("abcdefghijklmnopqrstuvwxyzABCDEFGHIJKLMNOPQRSTUVWXYZ_0123456789", string([]byte{c})) {
				return false
			}
		}
	}
	return len(l)%2 == 0 && len(l) <= 32
}

// samples takes samples, cut as they should be.
func (p *reader) samples() []api.Sample {
	var all []api.Sample
	was := p.text
	for range p.count(uint64(len(p.text))) {
		var b []byte
		for range p.count(uint64(len(p.text))) {
			b = append(b, byte(p.get(8)))
			if p.bad {
				return nil
			}
		}
		l, e := chunk.Decode(b)
		if e != api.OK || p.bad || len(all) > 0 && all[len(all)-1].T >= l[0].T {
			p.bad = true
			return nil
		}
		all = append(all, l...)
	}
	p.bad = p.bad || !strings.HasPrefix(was, chunks(chunk.Cut(all)...))
	return all
}

// over takes what is left: noughts, fewer than 8.
func (p *reader) over() bool {
	return !p.bad && len(p.text) < 8 && strings.Trim(p.text, "0") == ""
}

// change takes a change.
func (p *reader) change() (Change, bool) {
	c := Change{Kind: int(p.get(2))}
	switch c.Kind {
	case 0:
		p.bad = true
	case 1:
		for range p.count(64) {
			k := p.key()
			l := p.samples()
			if p.bad || len(l) != 1 {
				return Change{}, false
			}
			c.Items = append(c.Items, item(k, l[0].T, l[0].H))
		}
		p.bad = p.bad || len(c.Items) == 0
	case 2:
		ahead := ""
		for i := range p.count(64) {
			k := p.key()
			n := p.count(1)
			from := p.count(end)
			long := p.count(end - from)
			if p.bad || n != 1 || i > 0 && k <= ahead {
				return Change{}, false
			}
			c.Cuts = append(c.Cuts, cut(k, int64(from), int64(from+long)))
			ahead = k
		}
	case 3:
		c.Mark = int64(p.count(end))
	}
	if !p.over() {
		return Change{}, false
	}
	return c, true
}

// line takes a line.
func (p *reader) line() Line {
	x := Line{Key: p.key(), Last: int64(p.count(end))}
	var l []tomb.Range
	next := uint64(0)
	for range p.count(65536) {
		from := next + p.count(end)
		to := from + p.count(end)
		if p.bad || to > uint64(x.Last) {
			p.bad = true
			return Line{}
		}
		l = append(l, tomb.Range{From: int64(from), To: int64(to)})
		next = to + 2
	}
	x.Tombs, x.Head = tomb.Of(l...), p.samples()
	for _, s := range x.Head {
		for _, r := range l {
			p.bad = p.bad || r.From <= s.T && s.T <= r.To
		}
		p.bad = p.bad || s.T > x.Last
	}
	return x
}

// image takes an image.
func (p *reader) image() (Image, bool) {
	m := Image{Mark: int64(p.count(end))}
	for i := range int(p.count(256)) {
		m.Blocks = append(m.Blocks, int(p.count(65536)))
		if p.bad || i > 0 && m.Blocks[i] <= m.Blocks[i-1] {
			return Image{}, false
		}
	}
	for i := range int(p.count(64)) {
		m.Lines = append(m.Lines, p.line())
		if p.bad || i > 0 && m.Lines[i].Key <= m.Lines[i-1].Key {
			return Image{}, false
		}
	}
	if !p.over() {
		return Image{}, false
	}
	return m, true
}

// against holds what is read of bytes, both ways, against what the second reader takes; how many of the two are read.
func against(t *testing.T, b []byte) int {
	t.Helper()
	were := 0
	want, ok := (&reader{text: letters(b)}).change()
	c, e := Decode(b)
	if (e == api.OK) != ok || !ok && e != api.ErrForm || !sameChange(c, want) {
		t.Fatalf("Decode of %s is %v, %d; want %v", brief(letters(b)), c, e, want)
	}
	if ok {
		were++
		checkChange(t, "what was read", c, toldChange(c))
		checkBack(t, b, pack(toldChange(c)))
	}
	picture, ok := (&reader{text: letters(b)}).image()
	m, e := Load(b)
	if (e == api.OK) != ok || !ok && e != api.ErrForm || !sameImage(m, picture) {
		t.Fatalf("Load of %s is %v, %d; want %v", brief(letters(b)), m, e, picture)
	}
	if ok {
		were++
		checkImage(t, "what was read", m, toldImage(m))
		checkBack(t, b, pack(toldImage(m)))
	}
	return were
}

// checkBack asserts that bytes that were read are just those that are made of what they tell.
func checkBack(t *testing.T, b, again []byte) {
	t.Helper()
	if !bytes.Equal(b, again) {
		t.Errorf("of %s made again: %s", brief(letters(b)), brief(letters(again)))
	}
}

// P15.3

func TestFewBytes(t *testing.T) {
	read := against(t, nil)
	for n := range 1 << 8 {
		read += against(t, []byte{byte(n)})
	}
	for n := range 1 << 16 {
		read += against(t, []byte{byte(n >> 8), byte(n)})
	}
	if read < 100 {
		t.Errorf("only %d are read", read)
	}
	// Of three: such as begin as images of some blocks, or as deletes.
	for n := range 1 << 14 {
		against(t, []byte{0b01000000 | byte(n>>12)<<4 | byte(n>>8)&15, byte(n), 0})
		against(t, []byte{0b10100010, byte(n >> 8), byte(n)})
	}
}

// Drawn ones.

func drawHist(r *rand.Rand) api.Hist {
	h := api.Hist{Kind: r.IntN(2), Schema: r.IntN(13) - 4, ZeroAt: api.NoZero, Sum: int64(r.Uint64() >> r.IntN(64))}
	if r.IntN(3) == 0 {
		h.Zero = r.Uint64N(1 << (1 + r.IntN(40)))
	}
	for i := range 20 {
		if r.IntN(4) == 0 {
			h.Pos = append(h.Pos, api.Bucket{Index: i - 10, Count: 1 + r.Uint64N(9)})
		}
		if r.IntN(6) == 0 {
			h.Neg = append(h.Neg, api.Bucket{Index: i, Count: 1 + r.Uint64N(1<<20)})
		}
	}
	return counted(h)
}

// drawSamples are rising, some of them alike, so that they go into chunks.
func drawSamples(r *rand.Rand, long int, from int64) []api.Sample {
	var l []api.Sample
	h := drawHist(r)
	for range long {
		if r.IntN(8) == 0 {
			h = drawHist(r)
		}
		l = append(l, api.Sample{T: from, H: h})
		from += 1 + r.Int64N(1<<(1+r.IntN(8)))
	}
	return l
}

// drawKeys are some, rising.
func drawKeys(r *rand.Rand, long int) []string {
	set := map[string]bool{}
	for range long {
		var texts []string
		for i := range r.IntN(4) {
			texts = append(texts, string(rune('a'+i))+strconv.Itoa(r.IntN(3)), strings.Repeat("v", 1+r.IntN(3)))
		}
		set[key(texts...)] = true
	}
	var l []string
	for k := range set {
		l = append(l, k)
	}
	slices.Sort(l)
	return l
}

func drawChange(r *rand.Rand) Change {
	switch c := (Change{Kind: 1 + r.IntN(3)}); c.Kind {
	case Batch:
		for _, k := range append(drawKeys(r, r.IntN(4)), "") {
			c.Items = append(c.Items, item(k, r.Int64N(1<<(1+r.IntN(40))), drawHist(r)))
		}
		r.Shuffle(len(c.Items), func(i, k int) { c.Items[i], c.Items[k] = c.Items[k], c.Items[i] })
		return c
	case Delete:
		for _, k := range drawKeys(r, r.IntN(6)) {
			from := r.Int64N(1 << (1 + r.IntN(39)))
			c.Cuts = append(c.Cuts, cut(k, from, from+r.Int64N(1<<(1+r.IntN(38)))))
		}
		return c
	default:
		c.Mark = r.Int64N(1 << (1 + r.IntN(40)))
		return c
	}
}

func drawImage(r *rand.Rand) Image {
	m := Image{Mark: r.Int64N(1 << (1 + r.IntN(40)))}
	for n := range 65537 {
		if r.IntN(20000) == 0 {
			m.Blocks = append(m.Blocks, n)
		}
	}
	for _, k := range drawKeys(r, r.IntN(4)) {
		x := Line{Key: k}
		var l []tomb.Range
		for range r.IntN(5) {
			from := r.Int64N(2000)
			l = append(l, tomb.Range{From: from, To: from + r.Int64N(50)})
		}
		x.Tombs = tomb.Of(l...)
		x.Head = x.Tombs.Keep(drawSamples(r, r.IntN(6), r.Int64N(3000)))
		for _, s := range x.Head {
			x.Last = s.T
		}
		for _, r := range l {
			x.Last = max(x.Last, r.To)
		}
		x.Last += r.Int64N(2) * r.Int64N(1<<(1+r.IntN(30)))
		m.Lines = append(m.Lines, x)
	}
	return m
}

func TestDrawn(t *testing.T) {
	r := rand.New(rand.NewPCG(15, 1))
	for range 500 {
		c, m := drawChange(r), drawImage(r)
		checkChange(t, "drawn", c, toldChange(c))
		checkImage(t, "drawn", m, toldImage(m))
	}
	for range 20 {
		var m Image
		for i, k := range keys(64) {
			l := drawSamples(r, r.IntN(100), int64(i))
			m.Lines = append(m.Lines, line(k, end, tomb.Set{}, l...))
		}
		checkImage(t, "drawn, with long heads", m, toldImage(m))
	}
}

// Each bit turned, each beginning, and a byte more.
func TestSpoilt(t *testing.T) {
	h, a, b := counter(5, of(1, 2), of(3, 4)), key("a", "x"), key("b", "y")
	all := [][]byte{
		pack(toldChange(batch(item("", 0, empty())))),
		pack(toldChange(batch(item(a, 5, h), item(b, 1<<30, full())))),
		pack(toldChange(cuts())), pack(toldChange(cuts(cut(a, 3, 9), cut(b, 100, end)))),
		pack(toldChange(mark(0))), pack(toldChange(mark(5))), pack(toldChange(mark(end))),
		pack(toldImage(Image{})), pack(toldImage(Image{Mark: end, Blocks: []int{0, 5, 65536}})),
		pack(toldImage(Image{Mark: 9, Blocks: []int{3, 7}, Lines: []Line{line("", 0, tomb.Set{}), line(a, 90, set(1, 3, 70, 80), row(5, 5, h, h, full())...), line(b, 9, set(0, 9))}})),
	}
	r := rand.New(rand.NewPCG(15, 2))
	for range 15 {
		all = append(all, pack(toldChange(drawChange(r))), pack(toldImage(drawImage(r))))
	}
	for _, was := range all {
		against(t, was)
		for long := range was {
			against(t, was[:long])
		}
		for _, more := range []byte{0, 1, 128, 255} {
			against(t, append(slices.Clone(was), more))
		}
		for i := range min(8*len(was), 2000) {
			turned := slices.Clone(was)
			turned[i/8] ^= 128 >> (i % 8)
			against(t, turned)
			// And another one with it.
			k := r.IntN(8 * len(was))
			turned[k/8] ^= 128 >> (k % 8)
			against(t, turned)
		}
		// The beginning of one, and the end of another one.
		other := all[r.IntN(len(all))]
		against(t, slices.Concat(was[:r.IntN(len(was)+1)], other[r.IntN(len(other)+1):]))
	}
}

// A byte less is never read, and neither is one more: a text's end is told by what it says.
func TestOneByte(t *testing.T) {
	r := rand.New(rand.NewPCG(15, 3))
	for range 300 {
		b, _ := Encode(drawChange(r))
		checkRefused(t, "a byte less", b[:len(b)-1])
		checkRefused(t, "a byte more", append(slices.Clone(b), 0))
		checkRefused(t, "two bytes more", append(slices.Clone(b), 0, 0))
		checkRefused(t, "twice", append(slices.Clone(b), b...))
		b, _ = Store(drawImage(r))
		checkNoImage(t, "a byte less", b[:len(b)-1])
		checkNoImage(t, "a byte more", append(slices.Clone(b), 0))
		checkNoImage(t, "twice", append(slices.Clone(b), b...))
	}
}

// A change's bytes are no image's, and the other way round, but where they tell both.
func TestEachOther(t *testing.T) {
	h, a := counter(5, of(1, 2), of(3, 4)), key("a", "x")
	for _, c := range []Change{batch(item(a, 5, h)), batch(item("", 0, empty())), cuts(cut(a, 3, 9)), mark(0), mark(5), mark(end)} {
		b, _ := Encode(c)
		checkNoImage(t, "a change", b)
	}
	for _, m := range []Image{{}, {Mark: 5}, {Mark: end}, blocks(7), lines(line(a, 9, set(1, 3), row(5, 1, h)...))} {
		b, _ := Store(m)
		checkRefused(t, "an image", b)
	}
}

func TestManyBytes(t *testing.T) {
	r := rand.New(rand.NewPCG(15, 4))
	for range 20000 {
		b := make([]byte, r.IntN(40))
		for i := range b {
			b[i] = byte(r.Uint32())
		}
		against(t, b)
	}
	for _, n := range []byte{0, 0x55, 0xaa, 0xff, 0x80} {
		b := bytes.Repeat([]byte{n}, 1<<16)
		if _, e := Decode(b); e != api.ErrForm {
			t.Errorf("Decode of very many bytes %d: %d", n, e)
		}
		if _, e := Load(b); e != api.ErrForm {
			t.Errorf("Load of very many bytes %d: %d", n, e)
		}
	}
}

// What is handed in isn't kept, and what is handed out isn't another one's.
func TestOwnMemory(t *testing.T) {
	h, a, b := full(), key("a", "x"), key("b", "y")
	c := batch(item(a, 5, h), item(b, 5, h))
	m := Image{Blocks: []int{3, 4}, Lines: []Line{line(a, 9, set(1, 3), row(5, 1, h, h)...), line(b, 9, set(1, 3), row(5, 1, h, h)...)}}
	laid, _ := Encode(c)
	stored, _ := Store(m)
	was, kept := bytes.Clone(laid), bytes.Clone(stored)
	got, _ := Decode(laid)
	image, _ := Load(stored)

	// What was handed in goes, in place.
	h.Pos[0].Count, h.Neg[0].Index = 99, 7
	c.Items[0], m.Blocks[0], m.Lines[0].Head[0].T = Item{}, 9, 8
	if !bytes.Equal(laid, was) || !bytes.Equal(stored, kept) {
		t.Error("what was laid has changed")
	}
	clear(laid)
	clear(stored)
	checkChange(t, "the bytes are gone", got, toldChange(batch(item(a, 5, full()), item(b, 5, full()))))
	checkImage(t, "the bytes are gone", image, toldImage(Image{Blocks: []int{3, 4}, Lines: []Line{
		line(a, 9, set(1, 3), row(5, 1, full(), full())...), line(b, 9, set(1, 3), row(5, 1, full(), full())...)}}))

	// Each list is its own, with the room behind it.
	twice, _ := Decode(was)
	for i := range got.Items {
		spoil(got.Items[i].H.Pos)
		spoil(got.Items[i].H.Neg)
		if i == 0 && !sameHist(got.Items[1].H, full()) {
			t.Error("one item's buckets are another one's")
		}
	}
	_ = append(got.Items, item("", 1, empty()))
	checkChange(t, "the other one is spoilt", twice, letters(was))
	other, _ := Load(kept)
	for _, x := range [][]api.Sample{image.Lines[0].Head[:1], image.Lines[1].Head[1:]} {
		spoil(x[0].H.Pos)
		spoil(x[0].H.Neg)
	}
	if !sameHist(image.Lines[0].Head[1].H, full()) || !sameHist(image.Lines[1].Head[0].H, full()) {
		t.Error("one sample's buckets are another one's")
	}
	head := image.Lines[0].Head
	_ = append(head, api.Sample{T: 77})
	_ = append(head[:1], api.Sample{T: 77})
	_ = append(image.Blocks, 77)
	if image.Lines[1].Head[0].T != 5 || image.Lines[1].Head[1].T != 6 {
		t.Error("one line's head is another one's")
	}
	checkImage(t, "the other one is spoilt", other, letters(kept))
	spoil(got.Items)
	spoil(image.Blocks)
	spoil(image.Lines)
	checkChange(t, "the other one is gone", twice, letters(was))
	checkImage(t, "the other one is gone", other, letters(kept))
}

// spoil makes a list, with the room behind its end, one of zeros.
func spoil[T any](l []T) { clear(l[:cap(l)]) }

// What is laid twice has bytes of its own each time.
func TestLaidTwice(t *testing.T) {
	c, m := mark(1000), Image{Mark: 1000, Blocks: []int{5}}
	one, _ := Encode(c)
	two, _ := Encode(c)
	clear(one)
	checkBack(t, two, pack(toldChange(c)))
	one, _ = Store(m)
	two, _ = Store(m)
	clear(one)
	checkBack(t, two, pack(toldImage(m)))
}

// The document's example.
func TestExample(t *testing.T) {
	b, e := Encode(Change{Kind: Retain, Mark: 5})
	if e != api.OK {
		t.Fatal(e)
	}
	c, e := Decode(b)
	if e != api.OK || !sameChange(c, Change{Kind: Retain, Mark: 5}) {
		t.Fatal(c, e)
	}
}
