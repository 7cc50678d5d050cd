package block

import (
	"bytes"
	"hash/crc32"
	"maps"
	"math"
	"math/rand/v2"
	"pluvial/api"
	"pluvial/chunk"
	"pluvial/hist"
	"pluvial/match"
	"pluvial/tomb"
	"slices"
	"strconv"
	"strings"
	"testing"
)

// The tests hold the package against bits told as texts of the letters 0 and 1, sealed by another CRC-32, and, for bytes of any kind, against a second reader of such texts; what is made and joined against lists of samples under keys.

const end = 1 << 40

// widths are those of the levels.
var widths = []int64{64, 256, 1024, 4096, 16384}

// What blocks are made of.

// key is labels as a key: a name, a value, a name, a value.
func key(texts ...string) string {
	s := ""
	for _, x := range texts {
		s += string([]byte{byte(len(x))}) + x
	}
	return s
}

// names are so many labels, as a key.
func names(long int) string {
	s := ""
	for i := range long {
		s += key("n"+strconv.Itoa(100+i), "v")
	}
	return s
}

// keys are so many, rising.
func keys(long int) []string {
	var l []string
	for i := range long {
		l = append(l, key("a", strconv.Itoa(1000+i)))
	}
	return l
}

// rightKeys are keys of labels that may be.
func rightKeys() map[string]string {
	long := strings.Repeat("b", 64)
	return map[string]string{
		"of no labels": "", "of one": key("a", "x"), "of two": key("a", "x", "b", "y"), "of just 16": names(16),
		"of long ones": key(long, long), "of any bytes": key("_9Z", "\x00\xff\n\"{"), "of another one's key": key("a", key("b", "y")),
		"of one word": key("a", "a"), "of one word twice": key("a", "b", "b", "a"),
	}
}

// wrongKeys are no keys of labels that may be.
func wrongKeys() map[string]string {
	long := strings.Repeat("b", 65)
	return map[string]string{
		"no key": "a", "a byte 0": "\x00", "two bytes 0": "\x00\x00", "a name alone": "\x01a", "no name": key("", "x"), "no value": key("a", ""),
		"a name with too few bytes": "\x02a", "a value with too few bytes": "\x01a\x02x", "a byte behind": key("a", "x") + "b", "a 0 behind": key("a", "x") + "\x00",
		"a name that begins with a digit": key("1a", "x"), "a name with another byte": key("a-b", "x"), "a name that is too long": key(long, "x"),
		"a value that is too long": key("a", long), "names that are alike": key("a", "x", "a", "y"), "names that fall": key("b", "x", "a", "y"), "17 labels": names(17),
		"a text of labels": `{a="x"}`,
	}
}

// of are buckets by pairs: an index, and how many it has.
func of(pairs ...int) []api.Bucket {
	var l []api.Bucket
	for i := 0; i < len(pairs); i += 2 {
		l = append(l, api.Bucket{Index: pairs[i], Count: uint64(pairs[i+1])})
	}
	return l
}

// counted is a histogram with a Count that is right.
func counted(h api.Hist) api.Hist {
	h.Count = h.Zero
	for _, b := range slices.Concat(h.Pos, h.Neg) {
		h.Count += b.Count
	}
	return h
}

// counter and gauge are histograms of the schema 0.
func counter(zero uint64, pos, neg []api.Bucket) api.Hist {
	return counted(api.Hist{Kind: api.Counter, ZeroAt: api.NoZero, Zero: zero, Sum: -int64(zero), Pos: pos, Neg: neg})
}

func gauge(zero uint64, pos, neg []api.Bucket) api.Hist {
	h := counter(zero, pos, neg)
	h.Kind = api.Gauge
	return h
}

// full is one of which nothing is 0.
func full() api.Hist {
	return counted(api.Hist{Kind: api.Gauge, Schema: -1, ZeroAt: -7, Zero: 3, Sum: math.MinInt64, Pos: of(1, 5, 3, 1), Neg: of(2, 2)})
}

// told is a histogram by which one sample is known from another one.
func told(n int) api.Hist { return gauge(uint64(n), of(n%5, n+1), nil) }

// wrongHists are histograms that may not be.
func wrongHists(t *testing.T) map[string]api.Hist {
	l := map[string]api.Hist{}
	for what, change := range map[string]func(*api.Hist){
		"a kind": func(h *api.Hist) { h.Kind = 2 }, "a schema": func(h *api.Hist) { h.Schema = 9 }, "a place": func(h *api.Hist) { h.ZeroAt = 1 << 17 },
		"an index": func(h *api.Hist) { h.Pos[1].Index = 1<<10 + 1 }, "no rise": func(h *api.Hist) { h.Neg[1].Index = h.Neg[0].Index },
		"an empty bucket": func(h *api.Hist) { h.Pos[0].Count, h.Count = 0, h.Count-h.Pos[0].Count }, "a count": func(h *api.Hist) { h.Count++ },
		"far too many": func(h *api.Hist) { h.Zero = math.MaxUint64 },
	} {
		h := counter(5, of(1, 2, 4, 1), of(3, 4, 5, 6))
		change(&h)
		if hist.Check(h) == api.OK {
			t.Fatalf("%s: %v may be", what, h)
		}
		l[what] = h
	}
	return l
}

// samples are such of histograms that are told apart, at these times.
func samples(times ...int64) []api.Sample {
	var l []api.Sample
	for i, at := range times {
		l = append(l, api.Sample{T: at, H: told(i)})
	}
	return l
}

// others are samples of other histograms than those that samples has.
func others(times ...int64) []api.Sample {
	l := samples(times...)
	for i := range l {
		l[i].H = told(1000 + i)
	}
	return l
}

// from are so many times, from one on, one behind the other.
func from(first int64, long int) []int64 {
	var l []int64
	for i := range int64(long) {
		l = append(l, first+i)
	}
	return l
}

// row is one, block is one of a level that begins at a time.
func row(key string, l ...api.Sample) Row { return Row{Key: key, Samples: l} }

func block(level int, low int64, rows ...Row) Block {
	return Block{Meta: Meta{Low: low, High: low + widths[level], Level: level}, Rows: rows}
}

// What is the same, field by field.

func sameHist(a, b api.Hist) bool {
	return slices.Equal(a.Pos, b.Pos) && slices.Equal(a.Neg, b.Neg) && a.Sum == b.Sum &&
		[3]int{a.Kind, a.Schema, a.ZeroAt} == [3]int{b.Kind, b.Schema, b.ZeroAt} && [2]uint64{a.Zero, a.Count} == [2]uint64{b.Zero, b.Count}
}

func sameSamples(a, b []api.Sample) bool {
	return slices.EqualFunc(a, b, func(x, y api.Sample) bool { return x.T == y.T && sameHist(x.H, y.H) })
}

func sameRows(a, b []Row) bool {
	return slices.EqualFunc(a, b, func(x, y Row) bool { return x.Key == y.Key && sameSamples(x.Samples, y.Samples) })
}

func sameBlock(a, b Block) bool {
	return a.Low == b.Low && a.High == b.High && a.Level == b.Level && sameRows(a.Rows, b.Rows)
}

func sameBlocks(a, b []Block) bool { return slices.EqualFunc(a, b, sameBlock) }

// What is copied, with the room behind the end of each list.

func roomy[T any](l []T) []T { return slices.Clone(l[:cap(l)]) }

func copiedRows(l []Row) []Row {
	l = roomy(l)
	for i := range l {
		l[i].Samples = roomy(l[i].Samples)
		for k := range l[i].Samples {
			h := &l[i].Samples[k].H
			h.Pos, h.Neg = roomy(h.Pos), roomy(h.Neg)
		}
	}
	return l
}

func copiedBlock(b Block) Block {
	b.Rows = copiedRows(b.Rows)
	return b
}

func copiedBlocks(l []Block) []Block {
	l = roomy(l)
	for i := range l {
		l[i] = copiedBlock(l[i])
	}
	return l
}

// Bits, by letters.

// classes are how long counts are laid.
var classes = []int{0, 3, 7, 12, 20, 32, 64}

// in is a count's bits, laid in a class.
func in(class int, n uint64) string {
	s := strings.Repeat("1", class)
	if class < 6 {
		s += "0"
	}
	digits := strconv.FormatUint(n, 2)
	if n == 0 {
		digits = ""
	}
	return s + strings.Repeat("0", classes[class]-len(digits)) + digits
}

// classOf is a count's class.
func classOf(n uint64) int {
	for class, long := range classes {
		if long == 64 || n < 1<<long {
			return class
		}
	}
	return 0
}

// counts are counts' bits, one behind the other.
func counts(l ...int) string {
	s := ""
	for _, n := range l {
		s += in(classOf(uint64(n)), uint64(n))
	}
	return s
}

// letters are bytes as bits.
func letters(b []byte) string {
	s := make([]byte, 0, 8*len(b))
	for _, n := range b {
		for i := range 8 {
			s = append(s, '0'+n>>(7-i)&1)
		}
	}
	return string(s)
}

// text is a text's bits, and texts those of several, with how many they are.
func text(s string) string { return counts(len(s)) + letters([]byte(s)) }

func texts(l ...string) string {
	s := counts(len(l))
	for _, x := range l {
		s += text(x)
	}
	return s
}

// chunks are the bits of samples, told chunk by chunk.
func chunks(l ...[]api.Sample) string {
	var each []string
	for _, one := range l {
		b, e := chunk.Encode(one)
		if e != api.OK {
			panic("no chunk: " + strconv.Itoa(int(e)))
		}
		each = append(each, string(b))
	}
	return texts(each...)
}

// split are the names and values of a key that may be.
func split(key string) []string {
	var l []string
	for key != "" {
		n := int(key[0]) + 1
		l, key = append(l, key[1:n]), key[n:]
	}
	return l
}

// wordsIn are all of rows' keys, rising, each once.
func wordsIn(rows []Row) []string {
	set := map[string]bool{}
	for _, r := range rows {
		for _, s := range split(r.Key) {
			set[s] = true
		}
	}
	return slices.Sorted(maps.Keys(set))
}

// bitsOf are what is sealed of a block that may be.
func bitsOf(b Block) string {
	all := wordsIn(b.Rows)
	s := counts(b.Level, int(b.Low)) + texts(all...) + counts(len(b.Rows))
	for _, r := range b.Rows {
		its := split(r.Key)
		s += counts(len(its) / 2)
		for _, x := range its {
			s += counts(slices.Index(all, x))
		}
		s += chunks(chunk.Cut(r.Samples)...)
	}
	return s
}

// pack are letters as bytes, with noughts at the end.
func pack(parts ...string) []byte {
	s := strings.Join(parts, "")
	b := make([]byte, (len(s)+7)/8)
	for i := range s {
		if s[i] == '1' {
			b[i/8] |= 128 >> (i % 8)
		}
	}
	return b
}

// seal seals bytes.
func seal(b []byte) []byte {
	four := func(n uint32) []byte { return []byte{byte(n), byte(n >> 8), byte(n >> 16), byte(n >> 24)} }
	long := four(uint32(len(b)))
	return slices.Concat(long, four(crc32.ChecksumIEEE(slices.Concat(long, b))), b)
}

// sealed are letters, sealed.
func sealed(parts ...string) []byte { return seal(pack(parts...)) }

// brief is the beginning of bytes as letters, for a message.
func brief(b []byte) string {
	s := letters(b)
	return s[:min(len(s), 300)]
}

// What is asserted.

// checkBlock asserts that a block may be, is laid by these letters, and read as it was.
func checkBlock(t *testing.T, what string, b Block, parts ...string) {
	t.Helper()
	was, want := copiedBlock(b), sealed(parts...)
	if e := Check(b); e != api.OK {
		t.Errorf("%s: Check is %d", what, e)
	}
	got, e := Encode(b)
	if !bytes.Equal(got, want) || e != api.OK {
		t.Errorf("%s: Encode is %s, %d; want %s", what, brief(got), e, brief(want))
	}
	again, e := Decode(want)
	if !sameBlock(again, b) || e != api.OK {
		t.Errorf("%s: Decode is %v, %d; want %v", what, again, e, b)
	}
	if !sameBlock(copiedBlock(b), was) || !bytes.Equal(want, sealed(parts...)) {
		t.Errorf("%s: what was handed in is changed", what)
	}
}

// checkRight asserts the same of a block whose letters are told by bitsOf.
func checkRight(t *testing.T, what string, b Block) {
	t.Helper()
	checkBlock(t, what, b, bitsOf(b))
}

// checkWrong asserts why a block may not be.
func checkWrong(t *testing.T, what string, b Block, want api.Errno) {
	t.Helper()
	was := copiedBlock(b)
	if e := Check(b); e != want {
		t.Errorf("%s: Check is %d; want %d", what, e, want)
	}
	if got, e := Encode(b); len(got) != 0 || e != want {
		t.Errorf("%s: Encode is %s, %d; want %d", what, brief(got), e, want)
	}
	if !sameBlock(copiedBlock(b), was) {
		t.Errorf("%s: the block is changed", what)
	}
}

// checkRefused asserts why bytes are no block's.
func checkRefused(t *testing.T, what string, b []byte, want api.Errno) {
	t.Helper()
	was := bytes.Clone(b)
	if got, e := Decode(b); !sameBlock(got, Block{}) || e != want {
		t.Errorf("%s: Decode is %v, %d; want %d", what, got, e, want)
	}
	if !bytes.Equal(b, was) {
		t.Errorf("%s: the bytes are changed", what)
	}
}

// checkForm asserts that letters, sealed, are no block's.
func checkForm(t *testing.T, what string, parts ...string) {
	t.Helper()
	checkRefused(t, what, sealed(parts...), api.ErrForm)
}

// P16.1

func TestWidth(t *testing.T) {
	for level, want := range widths {
		if got := Width(level); got != want {
			t.Errorf("Width(%d) is %d", level, got)
		}
	}
	for _, level := range []int{-1, -2, -64, math.MinInt, math.MinInt + 1} {
		if got := Width(level); got != 64 {
			t.Errorf("Width(%d) is %d", level, got)
		}
	}
	for _, level := range []int{5, 6, 32, 1 << 32, math.MaxInt} {
		if got := Width(level); got != 16384 {
			t.Errorf("Width(%d) is %d", level, got)
		}
	}
}

func TestLow(t *testing.T) {
	for _, level := range []int{math.MinInt, -7, -1, 0, 1, 2, 3, 4, 5, 9, math.MaxInt} {
		width := widths[min(max(level, 0), 4)]
		check := func(at int64) {
			if got := Low(level, at); got != at/width*width {
				t.Errorf("Low(%d, %d) is %d", level, at, got)
			}
		}
		for at := range int64(40000) {
			check(at)
		}
		for _, begin := range []int64{width, 5 * width, 16384, end - 16384, end, end + 16384, 1 << 62} {
			for _, more := range []int64{-width, -width + 1, -2, -1, 0, 1, width - 1, width, width + 1} {
				check(begin + more)
			}
		}
		check(math.MaxInt64)
		check(math.MaxInt64 - 1)
	}
	// Of times below 0 nothing is told, but that it ends.
	for _, at := range []int64{-1, -64, -65, math.MinInt64, math.MinInt64 + 1} {
		Low(0, at)
		Low(4, at)
	}
}

func TestRight(t *testing.T) {
	for level, width := range widths {
		for _, x := range []struct {
			low  int64
			want bool
		}{
			{0, true}, {width, true}, {7 * width, true}, {16384, true}, {end - width, true}, {end, true}, {end + width, false}, {end + 16384, false},
			{1, false}, {width / 2, false}, {width - 1, false}, {width + 1, false}, {3*width + 16, false}, {end - 1, false}, {end - width + 1, false}, {end + 1, false}, {end - width/2, false},
			{-width, false}, {-1, false}, {-16384, false}, {math.MinInt64, false}, {math.MaxInt64, false}, {math.MaxInt64 - width + 1, false}, {1 << 62, false}, {-end, false},
		} {
			m := Meta{Low: x.low, High: x.low + width, Level: level}
			if got := Right(m); got != x.want {
				t.Errorf("Right(%v) is %t", m, got)
			}
			for _, more := range []int64{-width, -1, 1, width, 3 * width, 64, -64, -x.low, -x.low - width, 1 << 32} {
				if m := (Meta{Low: x.low, High: x.low + width + more, Level: level}); more != 0 && Right(m) {
					t.Errorf("Right(%v)", m)
				}
			}
			for _, high := range []int64{math.MinInt64, math.MaxInt64, end + 16385} {
				if m := (Meta{Low: x.low, High: high, Level: level}); Right(m) {
					t.Errorf("Right(%v)", m)
				}
			}
		}
		// Just as it is by each level, and by none else.
		for other := -3; other < 9; other++ {
			for _, low := range []int64{0, 16384, end} {
				m := Meta{Low: low, High: low + width, Level: other}
				if got := Right(m); got != (other == level) {
					t.Errorf("Right(%v) is %t", m, got)
				}
			}
		}
	}
	for _, level := range []int{-1, 5, 6, math.MinInt, math.MaxInt, 1 << 32, -4} {
		for _, width := range append([]int64{0, 1, 16, 65536}, widths...) {
			if m := (Meta{High: width, Level: level}); Right(m) {
				t.Errorf("Right(%v)", m)
			}
		}
	}
	if Right(Meta{}) {
		t.Error("a zero Meta is right")
	}
}

func TestCheckMeta(t *testing.T) {
	for level, width := range widths {
		for _, low := range []int64{0, width, 16384, end - width, end} {
			b := block(level, low, row("", samples(low)...))
			checkRight(t, "a Meta", b)
			for what, change := range map[string]func(*Meta){
				"High is one more": func(m *Meta) { m.High++ }, "High is one less": func(m *Meta) { m.High-- }, "High is Low": func(m *Meta) { m.High = m.Low },
				"a level below": func(m *Meta) { m.Level-- }, "a level above": func(m *Meta) { m.Level++ }, "no level": func(m *Meta) { m.Level = -1 },
				"5 levels more": func(m *Meta) { m.Level += 5 }, "one less": func(m *Meta) { m.Low--; m.High-- }, "one more": func(m *Meta) { m.Low++; m.High++ },
				"below 0": func(m *Meta) { m.Low, m.High = -width, 0 }, "a step behind the end": func(m *Meta) { m.Low, m.High = end+width, end+2*width },
			} {
				wrong := b
				change(&wrong.Meta)
				checkWrong(t, what, wrong, api.ErrRange)
				// Ahead of all else that is wrong.
				wrong.Rows = nil
				checkWrong(t, what+", no row", wrong, api.ErrRange)
				wrong.Rows = []Row{row("a")}
				checkWrong(t, what+", a wrong row", wrong, api.ErrRange)
			}
		}
	}
	checkWrong(t, "a zero block", Block{}, api.ErrRange)
}

func TestCheckRows(t *testing.T) {
	checkWrong(t, "no row", block(0, 64), api.ErrLimit)
	checkWrong(t, "an empty list", Block{Meta: Meta{High: 64}, Rows: []Row{}}, api.ErrLimit)
	var rows, wrong []Row
	for i, k := range keys(70) {
		rows = append(rows, row(k, samples(64+int64(i)%64)...))
		wrong = append(wrong, row("a"))
		b := block(0, 64, rows...)
		if i < 64 {
			checkRight(t, strconv.Itoa(i+1), b)
			continue
		}
		checkWrong(t, strconv.Itoa(i+1), b, api.ErrLimit)
		// Ahead of what is wrong with a row.
		checkWrong(t, strconv.Itoa(i+1)+" wrong ones", block(0, 64, wrong...), api.ErrLimit)
	}
	for _, long := range []int{1, 2, 63, 64} {
		checkWrong(t, strconv.Itoa(long)+" wrong ones", block(0, 64, wrong[:long]...), api.ErrLabel)
	}
}

func TestCheckKeys(t *testing.T) {
	good := samples(70, 71)
	last := key("zzz", strings.Repeat("z", 64))
	for what, k := range rightKeys() {
		checkRight(t, "a key "+what, block(0, 64, row(k, good...)))
		if k != "" {
			checkRight(t, "a key "+what+", second", block(0, 64, row("", good...), row(k, good...)))
		}
	}
	for what, k := range wrongKeys() {
		checkWrong(t, what, block(0, 64, row(k, good...)), api.ErrLabel)
		checkWrong(t, what+", last", block(0, 64, row("", good...), row(k, good...)), api.ErrLabel)
		checkWrong(t, what+", first", block(0, 64, row(k, good...), row(last, good...)), api.ErrLabel)
		checkWrong(t, what+", without samples", block(0, 64, row(k)), api.ErrLabel)
	}
	a, b, c := key("a", "x"), key("b", "x"), key("c", "x")
	for _, x := range []struct {
		what string
		keys []string
		want api.Errno
	}{
		{"the key of no labels first", []string{"", a}, api.OK},
		{"the key of no labels last", []string{a, ""}, api.ErrLabel},
		{"the key of no labels twice", []string{"", ""}, api.ErrLabel},
		{"alike", []string{a, a}, api.ErrLabel},
		{"they fall", []string{b, a}, api.ErrLabel},
		{"alike behind one", []string{a, b, b}, api.ErrLabel},
		{"the last one falls, not below the first", []string{a, c, b}, api.ErrLabel},
		{"the first two fall", []string{b, a, c}, api.ErrLabel},
		{"by values", []string{a, key("a", "y")}, api.OK},
		{"by values, falling", []string{key("a", "y"), a}, api.ErrLabel},
		{"one goes on", []string{a, key("a", "x", "b", "y")}, api.OK},
		{"one goes on, falling", []string{key("a", "x", "b", "y"), a}, api.ErrLabel},
		{"by how long names are", []string{b, key("aa", "x")}, api.OK},
		{"by how long names are, falling", []string{key("aa", "x"), b}, api.ErrLabel},
		{"by bytes above 127", []string{key("a", "\x7f"), key("a", "\x80")}, api.OK},
		{"by bytes above 127, falling", []string{key("a", "\x80"), key("a", "\x7f")}, api.ErrLabel},
	} {
		var rows []Row
		for _, k := range x.keys {
			rows = append(rows, row(k, good...))
		}
		if x.want == api.OK {
			checkRight(t, x.what, block(0, 64, rows...))
		} else {
			checkWrong(t, x.what, block(0, 64, rows...), x.want)
		}
	}
}

func TestCheckSamples(t *testing.T) {
	a, b := key("a", "x"), key("b", "x")
	for level, width := range widths {
		for _, low := range []int64{0, width, 5 * 16384, end - width} {
			for what, l := range map[string][]int64{
				"at Low": {low}, "just below High": {low + width - 1}, "the ends": {low, low + width - 1}, "in the midst": {low + 30, low + 31}, "all of 64": from(low, 64),
				"those just below High": from(low+width-40, 40),
			} {
				checkRight(t, what, block(level, low, row(a, samples(l...)...)))
				checkRight(t, what+", second", block(level, low, row(a, samples(low)...), row(b, samples(l...)...)))
			}
			for what, l := range map[string][]int64{
				"none": nil, "one below Low": {low - 1}, "at High": {low + width}, "one above High": {low + width + 1}, "one below, and at Low": {low - 1, low},
				"just below High, and at it": {low + width - 1, low + width}, "times that stay": {low + 3, low + 3}, "times that fall": {low + 4, low + 3},
				"the last ones stay": {low, low + 1, low + 1}, "the last one falls": {low, low + 5, low + 4}, "one in the midst is above": {low, low + width, low + 2},
				"one in the midst is below": {low + 1, low - 1, low + 2}, "one below 0": {-1}, "far below": {math.MinInt64}, "far above": {math.MaxInt64}, "the last one far above": {low, math.MaxInt64},
			} {
				checkWrong(t, what, block(level, low, row(a, samples(l...)...)), api.ErrOrder)
				checkWrong(t, what+", second", block(level, low, row(a, samples(low)...), row(b, samples(l...)...)), api.ErrOrder)
				checkWrong(t, what+", first", block(level, low, row(a, samples(l...)...), row(b, samples(low)...)), api.ErrOrder)
			}
		}
		// Behind the greatest time there is none, though the step goes on.
		checkRight(t, "the greatest time", block(level, end, row(a, samples(end)...)))
		checkWrong(t, "behind the greatest time", block(level, end, row(a, samples(end+1)...)), api.ErrOrder)
		checkWrong(t, "the greatest time and one more", block(level, end, row(a, samples(end, end+1)...)), api.ErrOrder)
	}
	for what, h := range wrongHists(t) {
		l := samples(64, 65, 66)
		for i := range l {
			some := slices.Clone(l)
			some[i].H = h
			checkWrong(t, what, block(0, 64, row(a, some...)), api.ErrOrder)
			checkWrong(t, what+", second", block(0, 64, row(a, l...), row(b, some...)), api.ErrOrder)
		}
	}
	checkRight(t, "of any kind", block(0, 64, row(a, api.Sample{T: 64, H: full()}, api.Sample{T: 65}, api.Sample{T: 66, H: counter(math.MaxUint64, nil, nil)})))
}

// Of two wrong rows the first one's error comes, of one row that of its key.
func TestCheckOrder(t *testing.T) {
	a, b, c := key("a", "x"), key("b", "x"), key("c", "x")
	good, bad := samples(64), samples(63)
	for _, x := range []struct {
		what string
		rows []Row
		want api.Errno
	}{
		{"samples, then a key", []Row{row(a, bad...), row("b", good...)}, api.ErrOrder},
		{"a key, then samples", []Row{row("a", good...), row(b, bad...)}, api.ErrLabel},
		{"samples, then keys that are alike", []Row{row(a, bad...), row(a, good...)}, api.ErrOrder},
		{"keys that are alike, of wrong samples", []Row{row(a, good...), row(a, bad...)}, api.ErrLabel},
		{"keys that fall, of no samples", []Row{row(b, good...), row(a)}, api.ErrLabel},
		{"no samples, then keys that fall", []Row{row(b), row(a, good...)}, api.ErrOrder},
		{"both of one row", []Row{row("a", bad...)}, api.ErrLabel},
		{"both of the second row", []Row{row(a, good...), row("b")}, api.ErrLabel},
		{"the third row's key behind the second one's samples", []Row{row(a, good...), row(b, bad...), row(a, good...)}, api.ErrOrder},
		{"the third row's samples behind the second one's key", []Row{row(b, good...), row(a, good...), row(c, bad...)}, api.ErrLabel},
	} {
		checkWrong(t, x.what, block(0, 64, x.rows...), x.want)
	}
}

func TestToldByLetters(t *testing.T) {
	// A counter's chunk of one empty sample at 256: schema 0, ZeroAt -2^19, no layouts, no more samples, the time, and noughts.
	chunk256 := "0" + "0100" + "11110" + strings.Repeat("1", 20) + "0" + "0" + "0" + "1110000100000000" + "0" + "0" + "00000"
	empty := api.Sample{T: 256, H: counter(0, nil, nil)}
	checkBlock(t, "no labels", block(0, 256, row("", empty)), "0", "1110000100000000", "0", "10001", "0", "10001", "10111", chunk256)
	checkBlock(t, "one label", block(1, 256, row("\x01a\x01x", empty)),
		"10001", "1110000100000000", "10010", "10001"+"01100001", "10001"+"01111000", "10001", "10001", "0", "10001", "10001", "10111", chunk256)
	// Words are places: those of the name and the value, by turns.
	checkBlock(t, "two rows", block(1, 256, row("\x01a\x01b", empty), row("\x01b\x02aa\x01c\x01b", empty)),
		"10001", "1110000100000000",
		"10100", "10001"+"01100001", "10010"+"01100001"+"01100001", "10001"+"01100010", "10001"+"01100011", "10010",
		"10001", "0", "10010", "10001", "10111", chunk256,
		"10010", "10010", "10001", "10011", "10010", "10001", "10111", chunk256)
	// How many bytes, their sum, and they, of which the chunk begins within the sixth.
	b, e := Encode(block(0, 256, row("", empty)))
	if want := []byte{12, 0, 0, 0, 102, 80, 163, 88, 112, 128, 34, 141, 201, 239, 255, 255, 28, 32, 0, 0}; !bytes.Equal(b, want) || e != api.OK {
		t.Errorf("Encode is %v, %d; want %v", b, e, want)
	}
}

func TestWords(t *testing.T) {
	l := samples(64)
	one := chunks(l)
	for _, x := range []struct {
		what  string
		keys  []string
		words []string
		rows  []string
	}{
		{"none", []string{""}, nil, []string{counts(0)}},
		{"a name that is a value", []string{key("a", "a")}, []string{"a"}, []string{counts(1, 0, 0)}},
		{"names that are values", []string{key("a", "b", "b", "a")}, []string{"a", "b"}, []string{counts(2, 0, 1, 1, 0)}},
		{"of several rows", []string{"", key("a", "x"), key("a", "y"), key("b", "x")}, []string{"a", "b", "x", "y"}, []string{counts(0), counts(1, 0, 2), counts(1, 0, 3), counts(1, 1, 2)}},
		{"by bytes", []string{key("Z", "\xff"), key("a", "\x00"), key("a", "{"), key("aa", "B")}, []string{"\x00", "B", "Z", "a", "aa", "{", "\xff"},
			[]string{counts(1, 2, 6), counts(1, 3, 0), counts(1, 3, 5), counts(1, 4, 1)}},
		{"one begins as another one", []string{key("a", "ab"), key("ab", "abc")}, []string{"a", "ab", "abc"}, []string{counts(1, 0, 1), counts(1, 1, 2)}},
	} {
		b := block(0, 64)
		said := counts(0, 64) + texts(x.words...) + counts(len(x.keys))
		for i, k := range x.keys {
			b.Rows = append(b.Rows, row(k, l...))
			said += x.rows[i] + one
		}
		checkBlock(t, x.what, b, said)
	}
	// As many as may be: of 64 rows 16 labels each, no two words alike.
	b := block(0, 64)
	for i := range 64 {
		k := ""
		for j := range 16 {
			k += key("n"+strconv.Itoa(1000+16*i+j), "v"+strconv.Itoa(1000+16*i+j))
		}
		b.Rows = append(b.Rows, row(k, l...))
	}
	if n := len(wordsIn(b.Rows)); n != 2048 {
		t.Fatalf("%d words", n)
	}
	checkRight(t, "all words", b)
	// A word more is one that no label has.
	all := append(wordsIn(b.Rows), "zzz")
	checkForm(t, "a word more", strings.Replace(bitsOf(b), texts(all[:2048]...), texts(all...), 1))
}

func TestChunks(t *testing.T) {
	k := key("a", "x")
	h, less := counter(5, of(1, 2), of(3, 4)), counter(4, of(1, 2), of(3, 4))
	many := func(long int, h api.Hist) []api.Sample {
		l := samples(from(1024, long)...)
		for i := range l {
			l[i].H = h
		}
		return l
	}
	mixed := func(l ...api.Hist) []api.Sample {
		some := samples(from(1030, len(l))...)
		for i := range some {
			some[i].H = l[i]
		}
		return some
	}
	// Told by how many samples each chunk has.
	for _, x := range []struct {
		what string
		l    []api.Sample
		long []int
	}{
		{"one", many(1, h), []int{1}}, {"a whole chunk", many(32, h), []int{32}}, {"one more", many(33, h), []int{32, 1}}, {"three", many(64+17, h), []int{32, 32, 17}},
		{"a thousand", many(1000, gauge(1, nil, nil)), append(slices.Repeat([]int{32}, 31), 8)},
		{"a counter that was reset", mixed(h, less, h, h, less), []int{1, 3, 1}}, {"of other kinds", mixed(h, full(), full(), counter(0, nil, nil)), []int{1, 2, 1}},
	} {
		var parts [][]api.Sample
		rest := x.l
		for _, n := range x.long {
			parts, rest = append(parts, rest[:n]), rest[n:]
		}
		one := counts(2, 1024) + texts("a", "x") + counts(1) + counts(1, 0, 1)
		checkBlock(t, x.what, block(2, 1024, row(k, x.l...)), one, chunks(parts...))
		checkBlock(t, x.what+", ahead of another row", block(2, 1024, row("", x.l...), row(k, x.l...)),
			counts(2, 1024)+texts("a", "x")+counts(2), counts(0), chunks(parts...), counts(1, 0, 1), chunks(parts...))
		// Chunks of other samples than Cut makes.
		if len(parts) > 1 {
			checkForm(t, x.what+", a chunk less", one, chunks(parts[1:]...), "0000000000000")
			checkForm(t, x.what+", the first one last", one, chunks(append(slices.Clone(parts[1:]), parts[0])...))
			checkForm(t, x.what+", the first one twice", one, chunks(append(slices.Clone(parts[:1]), parts...)...))
		}
		if first := parts[0]; len(first) > 1 {
			checkForm(t, x.what+", less in the first one", one, chunks(append([][]api.Sample{first[:1], first[1:]}, parts[1:]...)...))
		}
	}
}

// Decode's errors.

func TestSeals(t *testing.T) {
	b, _ := Encode(block(0, 64, row(key("a", "x"), samples(64, 65)...)))
	for long := range b {
		checkRefused(t, "a beginning", b[:long], api.ErrShort)
	}
	for i := range 8 * len(b) {
		turned := bytes.Clone(b)
		turned[i/8] ^= 128 >> (i % 8)
		_, e := Decode(turned)
		switch {
		case i >= 32:
			checkRefused(t, "a bit turned", turned, api.ErrSum)
		case int(turned[0])|int(turned[1])<<8|int(turned[2])<<16|int(turned[3])<<24 > len(b)-8:
			checkRefused(t, "said to be longer", turned, api.ErrShort)
		case e != api.ErrSum:
			t.Errorf("said to be shorter: %d", e)
		}
	}
	for _, more := range [][]byte{{0}, {1}, {255}, {0, 0, 0, 0}, b, make([]byte, 1000)} {
		checkRefused(t, "more behind", slices.Concat(b, more), api.ErrForm)
		checkRefused(t, "more sealed", seal(slices.Concat(b[8:], more)), api.ErrForm)
	}
	checkRefused(t, "a byte less sealed", seal(b[8:len(b)-1]), api.ErrForm)
	checkRefused(t, "sealed twice", seal(b), api.ErrForm)
	checkRefused(t, "no byte", nil, api.ErrShort)
	checkRefused(t, "an empty list", []byte{}, api.ErrShort)
	checkRefused(t, "nothing, sealed", seal(nil), api.ErrForm)
	checkRefused(t, "bytes 0", make([]byte, 7), api.ErrShort)
	checkRefused(t, "eight bytes 0", make([]byte, 8), api.ErrSum)
	checkRefused(t, "said to be very long", bytes.Repeat([]byte{255}, 100), api.ErrShort)
	checkRefused(t, "another sum", append([]byte{1, 0, 0, 0, 1, 2, 3, 4}, b...), api.ErrSum)
}

func TestNoBlock(t *testing.T) {
	a, b := key("a", "x"), key("b", "y")
	l := samples(64, 65)
	one := chunks(l)
	ahead := counts(0, 64)
	words := texts("a", "x")
	good := counts(1) + counts(1, 0, 1) + one
	checkBlock(t, "as it should be", block(0, 64, row(a, l...)), ahead, words, good)
	for _, level := range []int{5, 6, 7, 8, 1 << 20, end, math.MaxInt, -1, math.MinInt} {
		checkForm(t, "a level", counts(level, 64), words, good)
		checkForm(t, "a level, and Low 0", counts(level, 0), words, good)
	}
	for _, low := range []int{0, 1, 63, 65, 96, 128, end, end + 1, end + 64, 1 << 62, math.MaxInt, -1, -64, math.MinInt} {
		checkForm(t, "a Low", counts(0, low), words, good)
	}
	for level := 1; level < 5; level++ {
		checkForm(t, "a level whose grid has no such step", counts(level, 64), words, good)
	}
	late := chunks(samples(end))
	checkBlock(t, "the greatest Low", block(0, end, row(a, samples(end)...)), counts(0, end), words, counts(1), counts(1, 0, 1), late)
	checkForm(t, "a Low behind it", counts(0, end+64), words, counts(1), counts(1, 0, 1), late)

	for what, s := range map[string]string{
		"no words": texts(), "one word less": texts("a"), "the other one less": texts("x"), "words that fall": texts("x", "a"), "a word twice": texts("a", "a", "x"), "the last one twice": texts("a", "x", "x"),
		"a word that no label has": texts("a", "x", "y"), "such a one ahead": texts("A", "a", "x"), "one in the midst": texts("a", "b", "x"), "an empty word": texts("", "a", "x"),
		"a word that is too long": texts("a", strings.Repeat("x", 65)), "one that goes round": texts("a", strings.Repeat("x", 257)), "a name that is none": texts("1", "x"),
		"an empty name": texts("", "x"), "words alike": texts("a", "a"),
	} {
		checkForm(t, what, ahead, s, good)
	}
	checkForm(t, "a name that is none, in place", ahead, texts("a-b", "x"), good)
	checkForm(t, "a name with 257 bytes", ahead, texts("a"+strings.Repeat("b", 256), "x"), good)
	checkForm(t, "words that fall, and places so", ahead, texts("x", "a"), counts(1), counts(1, 1, 0), one)
	checkForm(t, "words alike, and a place each", ahead, texts("a", "a"), counts(1), counts(1, 0, 1), one)
	checkBlock(t, "one word, at both places", block(0, 64, row(key("a", "a"), l...)), ahead, texts("a"), counts(1), counts(1, 0, 0), one)

	for _, n := range []int{2, 3, 8, 2048, 1 << 40, math.MaxInt, -1, math.MinInt} {
		checkForm(t, "the place of a name", ahead, words, counts(1), counts(1, n, 1), one)
		checkForm(t, "the place of a value", ahead, words, counts(1), counts(1, 0, n), one)
		checkForm(t, "a place among no words", ahead, texts(), counts(1), counts(1, n, n), one)
	}
	checkForm(t, "the place 0 among no words", ahead, texts(), counts(1), counts(1, 0, 0), one)
	checkBlock(t, "the other place of each", block(0, 64, row(key("x", "a"), l...)), ahead, words, counts(1), counts(1, 1, 0), one)

	checkForm(t, "no row", ahead, texts(), counts(0))
	checkForm(t, "no row, and words", ahead, words, counts(0))
	checkForm(t, "a row more", ahead, words, counts(2), good[len(counts(1)):])
	checkForm(t, "a row that no count tells", ahead, words, good, good[len(counts(1)):])
	two := texts("a", "b", "x", "y")
	checkBlock(t, "two rows", block(0, 64, row(a, l...), row(b, l...)), ahead, two, counts(2), counts(1, 0, 2), one, counts(1, 1, 3), one)
	checkForm(t, "rows that fall", ahead, two, counts(2), counts(1, 1, 3), one, counts(1, 0, 2), one)
	checkForm(t, "rows alike", ahead, words, counts(2), counts(1, 0, 1), one, counts(1, 0, 1), one)
	checkForm(t, "rows of no labels", ahead, texts(), counts(2), counts(0), one, counts(0), one)
	var some []string
	var rows string
	for i := range 65 {
		some = append(some, "v"+strconv.Itoa(100+i))
		rows += counts(1, 0, 1+i) + one
	}
	checkForm(t, "65 rows", ahead, texts(append([]string{"a"}, some...)...), counts(65), rows)
	checkForm(t, "labels that fall", ahead, two, counts(1), counts(2, 1, 2, 0, 3), one)
	checkForm(t, "labels of one name", ahead, texts("a", "x", "y"), counts(1), counts(2, 0, 1, 0, 2), one)
	var seventeen string
	for i := range 17 {
		seventeen += counts(i, 17)
	}
	var few []string
	for i := range 17 {
		few = append(few, "n"+strconv.Itoa(100+i))
	}
	checkForm(t, "17 labels", ahead, texts(append(few, "v")...), counts(1), counts(17), seventeen, one)

	for what, s := range map[string]string{
		"no samples": counts(0), "an empty chunk": texts(""), "no chunk": texts("abc"), "a chunk that isn't there": counts(1), "one and an empty one": counts(2) + one[len(counts(1)):] + text(""),
		"one below Low": chunks(samples(63, 64)), "one at High": chunks(samples(127, 128)), "each by itself": chunks(l[:1], l[1:]), "the second one first": chunks(l[1:], l[:1]),
		"one twice": chunks(l, l), "a chunk of another step": chunks(samples(200)),
	} {
		checkForm(t, what, ahead, words, counts(1), counts(1, 0, 1), s)
		checkForm(t, what+", ahead of a row", ahead, two, counts(2), counts(1, 0, 2), s, counts(1, 1, 3), one)
	}
	checkForm(t, "a byte behind", ahead, words, good, "0000000000000000")
	checkForm(t, "a 1 behind", ahead, words, good, "1")
}

// part is bits in three: those that are right, a count that is wrong, and what should stand behind.
type part struct{ what, ahead, wrong, rear string }

// wrongCounts are parts in which a count is laid longer than need be, or says another number than it should.
func wrongCounts(what, ahead string, n int, behind string) []part {
	var l []part
	for class := classOf(uint64(n)) + 1; class < len(classes); class++ {
		l = append(l, part{what + ", laid longer", ahead, in(class, uint64(n)), behind})
	}
	for _, other := range []int{0, n - 1, n + 1, n + 1000, 1 << 31, 1<<40 + 1, math.MaxInt, -1, math.MinInt} {
		if other != n {
			l = append(l, part{what + ", another one", ahead, counts(other), behind})
		}
	}
	return l
}

func TestWrongCounts(t *testing.T) {
	// The whole in parts, each of which is right, and a count.
	inner, _ := chunk.Encode(samples(64, 65))
	parts := []struct {
		what string
		n    int
		rear string
	}{
		{"the level", 0, ""}, {"Low", 64, ""}, {"words", 3, ""}, {"bytes of a word", 2, letters([]byte("ab"))}, {"bytes of the second word", 1, letters([]byte("{"))}, {"bytes of the last word", 1, letters([]byte("}"))},
		{"rows", 2, ""}, {"labels", 1, ""}, {"a name's place", 0, ""}, {"a value's place", 1, ""}, {"chunks", 1, ""}, {"bytes of a chunk", len(inner), letters(inner)},
		{"labels of the last row", 1, ""}, {"the last name's place", 0, ""}, {"the last value's place", 2, ""}, {"chunks of the last row", 1, ""}, {"bytes of the last chunk", len(inner), letters(inner)},
	}
	whole := func(from int) string {
		s := ""
		for _, x := range parts[from:] {
			s += counts(x.n) + x.rear
		}
		return s
	}
	l := samples(64, 65)
	checkBlock(t, "the parts", block(0, 64, row(key("ab", "{"), l...), row(key("ab", "}"), l...)), whole(0))
	ahead := ""
	for i, x := range parts {
		for _, wrong := range wrongCounts(x.what, ahead, x.n, x.rear+whole(i+1)) {
			checkForm(t, wrong.what, wrong.ahead, wrong.wrong, wrong.rear)
			checkForm(t, wrong.what+", and nothing behind", wrong.ahead, wrong.wrong)
		}
		ahead += counts(x.n) + x.rear
	}
}

// P16.2

// flat is all of rows, sample by sample, with its key.
type flat struct {
	key string
	s   api.Sample
}

func flatten(rows []Row) []flat {
	var l []flat
	for _, r := range rows {
		for _, s := range r.Samples {
			l = append(l, flat{r.Key, s})
		}
	}
	return l
}

// modelMake are the blocks of a level that have all of rows, looked for step by step.
func modelMake(level int, rows []Row) []Block {
	steps := map[int64]bool{}
	for _, x := range flatten(rows) {
		steps[x.s.T/widths[level]] = true
	}
	var l []Block
	for _, n := range slices.Sorted(maps.Keys(steps)) {
		b := block(level, n*widths[level])
		for _, r := range rows {
			var some []api.Sample
			for _, s := range r.Samples {
				if s.T/widths[level] == n {
					some = append(some, s)
				}
			}
			if len(some) > 0 {
				b.Rows = append(b.Rows, row(r.Key, some...))
			}
		}
		l = append(l, b)
	}
	return l
}

// modelJoin are all rows of blocks: sample by sample put in where it belongs.
func modelJoin(tombs map[string][]int64, blocks []Block) []Row {
	all := map[string][]api.Sample{}
	for _, b := range blocks {
		for _, x := range flatten(b.Rows) {
			if slices.Contains(tombs[x.key], x.s.T) {
				continue
			}
			l := all[x.key]
			i := 0
			for i < len(l) && l[i].T <= x.s.T {
				i++
			}
			all[x.key] = slices.Insert(slices.Clone(l), i, x.s)
		}
	}
	var rows []Row
	for _, k := range slices.Sorted(maps.Keys(all)) {
		rows = append(rows, row(k, all[k]...))
	}
	return rows
}

// checkMake asserts what is made of rows: blocks that may be, of which all comes back.
func checkMake(t *testing.T, what string, level int, rows []Row) {
	t.Helper()
	was := copiedRows(rows)
	got := Make(level, rows)
	if want := modelMake(level, rows); !sameBlocks(got, want) {
		t.Errorf("%s: Make(%d) is %v; want %v", what, level, got, want)
	}
	if !sameRows(copiedRows(rows), was) {
		t.Errorf("%s: the rows are changed", what)
	}
	for i, b := range got {
		if e := Check(b); e != api.OK || i > 0 && b.Low < got[i-1].High {
			t.Errorf("%s: of what Make(%d) makes the block %d is %v: %d", what, level, i, b, e)
		}
	}
	var some []Row
	for _, r := range rows {
		if len(r.Samples) > 0 {
			some = append(some, r)
		}
	}
	checkJoin(t, what+", joined again", nil, got, some)
	back := slices.Clone(got)
	slices.Reverse(back)
	checkJoin(t, what+", joined again from the end", nil, back, some)
}

// checkJoin asserts what blocks are joined to, without the times of some keys.
func checkJoin(t *testing.T, what string, times map[string][]int64, blocks []Block, want []Row) {
	t.Helper()
	was := copiedBlocks(blocks)
	tombs := map[string]tomb.Set{}
	for k, l := range times {
		var ranges []tomb.Range
		for _, at := range l {
			ranges = append(ranges, tomb.Range{From: at, To: at})
		}
		tombs[k] = tomb.Of(ranges...)
	}
	if got := Join(tombs, blocks...); !sameRows(got, want) {
		t.Errorf("%s: Join is %v; want %v", what, got, want)
	}
	if len(times) == 0 {
		if got := Join(nil, blocks...); !sameRows(got, want) {
			t.Errorf("%s: Join without sets is %v; want %v", what, got, want)
		}
	}
	if !sameBlocks(copiedBlocks(blocks), was) {
		t.Errorf("%s: the blocks are changed", what)
	}
	for k, l := range times {
		for _, r := range tombs[k].Ranges() {
			if !slices.Contains(l, r.From) || !slices.Contains(l, r.To) {
				t.Errorf("%s: the sets are changed", what)
			}
		}
	}
	if len(tombs) != len(times) {
		t.Errorf("%s: there are other sets", what)
	}
}

// rowsOf are rows of some keys, by their times.
func rowsOf(times map[string][]int64) []Row {
	var l []Row
	for _, k := range slices.Sorted(maps.Keys(times)) {
		l = append(l, row(k, samples(times[k]...)...))
	}
	return l
}

func TestMake(t *testing.T) {
	a, b := key("a", "x"), key("b", "y")
	// The document's example.
	l := samples(0, 63, 64)
	if got := Make(0, []Row{row(a, l...)}); !sameBlocks(got, []Block{block(0, 0, row(a, l[:2]...)), block(0, 64, row(a, l[2:]...))}) {
		t.Errorf("Make is %v", got)
	}
	if got := Make(1, []Row{row(a, l...)}); !sameBlocks(got, []Block{block(1, 0, row(a, l...))}) {
		t.Errorf("Make is %v", got)
	}
	for level, width := range widths {
		if got := Make(level, nil); len(got) != 0 {
			t.Errorf("Make of nothing is %v", got)
		}
		for what, times := range map[string]map[string][]int64{
			"no samples": {a: nil}, "no samples of two": {a: nil, b: nil}, "one": {a: {5}}, "at 0": {a: {0}}, "the end": {a: {end}}, "the ends": {a: {0, end}},
			"up to the end": {a: {end - width, end - width + 1, end - 1, end}}, "beginnings": {a: {0, width, 2 * width, 5 * width}}, "just ahead of them": {a: {width - 1, 2*width - 1, 5*width - 1}},
			"both": {a: {width - 1, width, 3*width - 1, 3 * width}}, "two rows": {a: {5}, b: {6}}, "two rows in two steps": {a: {5}, b: {width + 6}}, "the second row ahead": {a: {width + 6}, b: {5}},
			"two rows in each": {a: {5, width}, b: {6, width}}, "by turns": {a: {0, 2 * width, 4 * width}, b: {width, 3 * width, 5 * width}}, "one row without samples": {a: nil, b: {5}},
			"the last row without samples": {a: {5}, b: nil}, "rows of no labels": {"": {0, width}, a: {0, 3 * width}}, "very many": {"": from(end-1000, 1000), a: from(900, 1000)},
		} {
			checkMake(t, what, level, rowsOf(times))
		}
	}
	var rows []Row
	for i, k := range keys(64) {
		rows = append(rows, row(k, samples(int64(i), 64+int64(i), 1000-int64(i))...))
	}
	for level := range widths {
		checkMake(t, "64 rows", level, rows)
	}
	for _, level := range []int{-1, -64, 5, 6, 1 << 32, math.MinInt, math.MaxInt} {
		if got := Make(level, rows); len(got) != 0 {
			t.Errorf("Make of no level is %v", got)
		}
	}
}

func TestJoin(t *testing.T) {
	a, b, c := key("a", "x"), key("b", "y"), key("c", "z")
	checkJoin(t, "no block", nil, nil, nil)
	checkJoin(t, "no block, but sets", map[string][]int64{a: {5}}, nil, nil)
	one := block(0, 64, row(a, samples(64, 70)...), row(b, samples(127)...))
	checkJoin(t, "one", nil, []Block{one}, one.Rows)
	behind := block(0, 128, row(a, others(128)...), row(c, others(129)...))
	wide := block(2, 1024, row("", samples(1024)...), row(b, others(1025, 2000)...))
	want := []Row{row("", wide.Rows[0].Samples...), row(a, slices.Concat(one.Rows[0].Samples, behind.Rows[0].Samples)...),
		row(b, slices.Concat(one.Rows[1].Samples, wide.Rows[1].Samples)...), row(c, behind.Rows[1].Samples...)}
	for _, order := range [][]Block{{one, behind, wide}, {one, wide, behind}, {behind, one, wide}, {behind, wide, one}, {wide, one, behind}, {wide, behind, one}} {
		checkJoin(t, "three, of two levels", nil, order, want)
	}
	// One in the midst of the other one.
	inner := block(0, 64, row(a, samples(65, 67, 69)...))
	outer := block(1, 0, row(a, others(0, 64, 66, 68, 70, 200)...))
	want = []Row{row(a, outer.Rows[0].Samples[0], outer.Rows[0].Samples[1], inner.Rows[0].Samples[0], outer.Rows[0].Samples[2], inner.Rows[0].Samples[1],
		outer.Rows[0].Samples[3], inner.Rows[0].Samples[2], outer.Rows[0].Samples[4], outer.Rows[0].Samples[5])}
	checkJoin(t, "one in the other one", nil, []Block{inner, outer}, want)
	checkJoin(t, "one in the other one", nil, []Block{outer, inner}, want)

	for what, x := range map[string]struct {
		gone map[string][]int64
		want []Row
	}{
		"keys that no row has":    {map[string][]int64{c: {64, 70, 127}, "": {64}, "no key": {64}}, one.Rows},
		"sets that have no times": {map[string][]int64{a: nil, b: nil}, one.Rows},
		"times that no row has":   {map[string][]int64{a: {63, 65, 69, 71, 127, end}, b: {64, 70, 126, 128}}, one.Rows},
		"the first one":           {map[string][]int64{a: {64}}, []Row{row(a, one.Rows[0].Samples[1]), one.Rows[1]}},
		"the last one":            {map[string][]int64{a: {70, 127}}, []Row{row(a, one.Rows[0].Samples[0]), one.Rows[1]}},
		"all of a row":            {map[string][]int64{a: {64, 70}}, one.Rows[1:]},
		"all of the other row":    {map[string][]int64{b: {127}}, one.Rows[:1]},
		"some of each":            {map[string][]int64{a: {70}, b: {127}}, []Row{row(a, one.Rows[0].Samples[0])}},
		"all":                     {map[string][]int64{a: {64, 70}, b: {127}}, nil},
	} {
		checkJoin(t, what, x.gone, []Block{one}, x.want)
	}
	checkJoin(t, "of several blocks", map[string][]int64{a: {64, 128}, b: {1025}, c: {129}}, []Block{wide, behind, one},
		[]Row{row("", wide.Rows[0].Samples...), row(a, one.Rows[0].Samples[1]), row(b, one.Rows[1].Samples[0], wide.Rows[1].Samples[1])})
	// Whole ranges, not only times one by one.
	if got := Join(map[string]tomb.Set{a: tomb.Of(tomb.Range{From: 65, To: 128}), b: tomb.Of(tomb.Range{To: end})}, one, behind); !sameRows(got, []Row{row(a, one.Rows[0].Samples[0]), behind.Rows[1]}) {
		t.Errorf("without ranges: %v", got)
	}
}

// Of two of one time that of the block ahead stands first.
func TestJoinOfOneTime(t *testing.T) {
	a, b := key("a", "x"), key("b", "y")
	at := func(n int) api.Sample { return api.Sample{T: 70, H: told(n)} }
	one, two, three := block(0, 64, row(a, at(1))), block(0, 64, row(a, at(2))), block(1, 0, row(a, at(3)))
	checkJoin(t, "two", nil, []Block{one, two}, []Row{row(a, at(1), at(2))})
	checkJoin(t, "two, the other way round", nil, []Block{two, one}, []Row{row(a, at(2), at(1))})
	checkJoin(t, "one twice", nil, []Block{one, one}, []Row{row(a, at(1), at(1))})
	checkJoin(t, "of two levels", nil, []Block{three, two}, []Row{row(a, at(3), at(2))})
	checkJoin(t, "three", nil, []Block{three, two, one}, []Row{row(a, at(3), at(2), at(1))})
	checkJoin(t, "three, gone", map[string][]int64{a: {70}}, []Block{three, two, one}, nil)
	// As many as could be turned about.
	first, second := samples(from(64, 64)...), others(from(64, 64)...)
	var both, back []api.Sample
	for i := range first {
		both, back = append(both, first[i], second[i]), append(back, second[i], first[i])
	}
	x, y := block(0, 64, row(a, first...), row(b, second...)), block(0, 64, row(a, second...), row(b, first...))
	checkJoin(t, "many", nil, []Block{x, y}, []Row{row(a, both...), row(b, back...)})
	checkJoin(t, "many, the other way round", nil, []Block{y, x}, []Row{row(a, back...), row(b, both...)})
}

// checkIndex asserts where labels stand.
func checkIndex(t *testing.T, what string, b Block, want map[api.Label][]int) {
	t.Helper()
	was := copiedBlock(b)
	if got := Index(b); !maps.EqualFunc(got, want, slices.Equal[[]int]) {
		t.Errorf("%s: Index is %v; want %v", what, got, want)
	}
	if !sameBlock(copiedBlock(b), was) {
		t.Errorf("%s: the block is changed", what)
	}
}

// rowed is a block with one sample a key.
func rowed(keys ...string) Block {
	b := block(0, 64)
	for i, k := range keys {
		b.Rows = append(b.Rows, row(k, samples(64+int64(i)%64, 127)...))
	}
	return b
}

func TestIndex(t *testing.T) {
	type places = map[api.Label][]int
	at := func(name, value string) api.Label { return api.Label{Name: name, Value: value} }
	checkIndex(t, "no row", Block{}, nil)
	checkIndex(t, "no labels", rowed(""), nil)
	checkIndex(t, "one label", rowed(key("a", "x")), places{at("a", "x"): {0}})
	checkIndex(t, "behind no labels", rowed("", key("a", "x")), places{at("a", "x"): {1}})
	checkIndex(t, "names and values by turns", rowed(key("a", "b"), key("b", "a")), places{at("a", "b"): {0}, at("b", "a"): {1}})
	checkIndex(t, "a label in several rows", rowed(key("a", "x"), key("a", "x", "b", "y"), key("a", "y"), key("b", "y")),
		places{at("a", "x"): {0, 1}, at("a", "y"): {2}, at("b", "y"): {1, 3}})
	checkIndex(t, "two labels in one row", rowed(key("a", "x", "b", "x", "c", "x")), places{at("a", "x"): {0}, at("b", "x"): {0}, at("c", "x"): {0}})
	all := places{}
	var l []string
	for i := range 64 {
		l = append(l, key("a", strconv.Itoa(100+i), "b", "x"))
		all[at("a", strconv.Itoa(100+i))] = []int{i}
		all[at("b", "x")] = append(all[at("b", "x")], i)
	}
	checkIndex(t, "64 rows", rowed(l...), all)
	for what, k := range wrongKeys() {
		if got := Index(rowed("", k, key("zz", "x")))[at("zz", "x")]; !slices.Equal(got, []int{2}) {
			t.Errorf("%s: Index is %v", what, got)
		}
	}
}

// checkSelect asserts which rows a selector means.
func checkSelect(t *testing.T, what string, b Block, s *match.Selector, want ...int) {
	t.Helper()
	was := copiedBlock(b)
	var rows []Row
	for _, i := range want {
		rows = append(rows, b.Rows[i])
	}
	if got := Select(b, s); !sameRows(got, rows) {
		t.Errorf("%s: Select of %s is %v; want %v", what, s.Print(), got, rows)
	}
	if !sameBlock(copiedBlock(b), was) {
		t.Errorf("%s: the block is changed", what)
	}
}

func TestSelect(t *testing.T) {
	b := rowed("", key("a", "x"), key("a", "x", "b", "y"), key("a", "y"), key("b", "y"), key("b", "yz", "c", "x"))
	for text, want := range map[string][]int{
		`{}`: {0, 1, 2, 3, 4, 5}, `{a="x"}`: {1, 2}, `{a="y"}`: {3}, `{b="y"}`: {2, 4}, `{a="x",b="y"}`: {2}, `{b="y",a="x"}`: {2}, `{a="x",a="y"}`: nil, `{d="x"}`: nil, `{x="a"}`: nil,
		`{a!="x"}`: {0, 3, 4, 5}, `{a=""}`: {0, 4, 5}, `{a!=""}`: {1, 2, 3}, `{b=~"y.*"}`: {2, 4, 5}, `{b!~"y.*"}`: {0, 1, 3}, `{a=~"x|y"}`: {1, 2, 3}, `{a="",b=""}`: {0}, `{a="x",b!="y"}`: {1},
		`{b="y",a=""}`: {4}, `{a=~".*"}`: {0, 1, 2, 3, 4, 5}, `{a!~".*"}`: nil, `{d!="x"}`: {0, 1, 2, 3, 4, 5}, `{c="x",b=~"y+z"}`: {5}, `{a="x",a="x"}`: {1, 2},
	} {
		s, e := match.Parse(text)
		if e != api.OK {
			t.Fatal(text, e)
		}
		checkSelect(t, "rows", b, s, want...)
		checkSelect(t, "no row", Block{}, s)
	}
	checkSelect(t, "a nil selector", b, nil)
	checkSelect(t, "a nil selector, no row", Block{}, nil)
}

// P16.3

// reader takes letters; bad: they aren't such as should be there.
type reader struct {
	text string
	bad  bool
}

// get takes so many letters, as a number.
func (p *reader) get(n int) uint64 {
	if p.bad || n > len(p.text) {
		p.bad = true
		return 0
	}
	v := uint64(0)
	for _, x := range p.text[:n] {
		v = 2*v + uint64(x-'0')
	}
	p.text = p.text[n:]
	return v
}

// count takes a count of at most so many.
func (p *reader) count(most int) int {
	class := 0
	for class < 6 && p.get(1) == 1 {
		class++
	}
	n := p.get(classes[class])
	if p.bad || most < 0 || n > uint64(most) || classOf(n) != class {
		p.bad = true
		return 0
	}
	return int(n)
}

// str takes a text.
func (p *reader) str() string {
	var b []byte
	for range p.count(len(p.text)) {
		if b = append(b, byte(p.get(8))); p.bad {
			return ""
		}
	}
	return string(b)
}

// samples takes samples, cut as they should be, of times from one on, below another one.
func (p *reader) samples(low, high int64) []api.Sample {
	var all []api.Sample
	was := p.text
	for range p.count(len(p.text)) {
		l, e := chunk.Decode([]byte(p.str()))
		if e != api.OK || p.bad || len(all) > 0 && all[len(all)-1].T >= l[0].T {
			p.bad = true
			return nil
		}
		all = append(all, l...)
	}
	if p.bad || len(all) == 0 || all[0].T < low || all[len(all)-1].T >= high || !strings.HasPrefix(was, chunks(chunk.Cut(all)...)) {
		p.bad = true
		return nil
	}
	return all
}

// isName says whether a text is a label's name.
func isName(s string) bool {
	for i, c := range []byte(s) {
		if !strings.Contains("abcdefghijklmnopqrstuvwxyzABCDEFGHIJKLMNOPQRSTUVWXYZ_", string([]byte{c})) && (i == 0 || c < '0' || c > '9') {
			return false
		}
	}
	return 1 <= len(s) && len(s) <= 64
}

// key takes labels by their places, as a key.
func (p *reader) key(words []string) string {
	k, ahead := "", ""
	for range p.count(16) {
		name, value := p.count(len(words)-1), p.count(len(words)-1)
		if p.bad || !isName(words[name]) || words[name] <= ahead || len(words[value]) < 1 || len(words[value]) > 64 {
			p.bad = true
			return ""
		}
		ahead = words[name]
		k += key(words[name], words[value])
	}
	return k
}

// block takes a block, that is all.
func (p *reader) block() (Block, bool) {
	level, low := p.count(4), p.count(end)
	if p.bad || int64(low)%widths[level] != 0 {
		return Block{}, false
	}
	var words []string
	for i := range p.count(len(p.text)) {
		if words = append(words, p.str()); p.bad || i > 0 && words[i] <= words[i-1] {
			return Block{}, false
		}
	}
	b := block(level, int64(low))
	for i := range p.count(64) {
		k := p.key(words)
		b.Rows = append(b.Rows, row(k, p.samples(b.Low, b.High)...))
		if p.bad || i > 0 && k <= b.Rows[i-1].Key {
			return Block{}, false
		}
	}
	if p.bad || len(b.Rows) == 0 || !slices.Equal(wordsIn(b.Rows), words) || len(p.text) >= 8 || strings.Trim(p.text, "0") != "" {
		return Block{}, false
	}
	return b, true
}

// against holds what is read of bytes, sealed, against what the second reader takes; whether they are a block's.
func against(t *testing.T, inner []byte) bool {
	t.Helper()
	want, ok := (&reader{text: letters(inner)}).block()
	b := seal(inner)
	got, e := Decode(b)
	if (e == api.OK) != ok || !ok && e != api.ErrForm || !sameBlock(got, want) {
		t.Fatalf("Decode of %s is %v, %d; want %v", brief(inner), got, e, want)
	}
	if !ok {
		return false
	}
	checkRight(t, "what was read", got)
	if again := pack(bitsOf(got)); !bytes.Equal(again, inner) {
		t.Errorf("of %s made again: %s", brief(inner), brief(again))
	}
	return true
}

func TestFewBytes(t *testing.T) {
	against(t, nil)
	for n := range 1 << 8 {
		against(t, []byte{byte(n)})
	}
	for n := range 1 << 16 {
		against(t, []byte{byte(n >> 8), byte(n)})
	}
}

// Drawn ones.

func drawHist(r *rand.Rand) api.Hist {
	h := api.Hist{Kind: r.IntN(2), Schema: r.IntN(13) - 4, ZeroAt: api.NoZero, Sum: int64(r.Uint64() >> r.IntN(64))}
	if r.IntN(3) == 0 {
		h.Zero = r.Uint64N(1 << (1 + r.IntN(40)))
	}
	for i := range 12 {
		if r.IntN(4) == 0 {
			h.Pos = append(h.Pos, api.Bucket{Index: i - 6, Count: 1 + r.Uint64N(9)})
		}
		if r.IntN(6) == 0 {
			h.Neg = append(h.Neg, api.Bucket{Index: i, Count: 1 + r.Uint64N(1<<20)})
		}
	}
	return counted(h)
}

// drawSamples are at some of the times from one on, below another one, at least at one of them.
func drawSamples(r *rand.Rand, low, high int64, long int) []api.Sample {
	set := map[int64]bool{}
	for range long {
		set[min(low+r.Int64N(high-low), end)] = true
	}
	var l []api.Sample
	h := drawHist(r)
	for _, at := range slices.Sorted(maps.Keys(set)) {
		if r.IntN(8) == 0 {
			h = drawHist(r)
		}
		l = append(l, api.Sample{T: at, H: h})
	}
	return l
}

// drawKeys are some, rising, one at least.
func drawKeys(r *rand.Rand, long int) []string {
	set := map[string]bool{}
	for range long {
		var texts []string
		for i := range r.IntN(4) {
			texts = append(texts, string(rune('a'+i))+strconv.Itoa(r.IntN(3)), string(rune('a'+r.IntN(3)))+strconv.Itoa(r.IntN(3)))
		}
		set[key(texts...)] = true
	}
	return slices.Sorted(maps.Keys(set))
}

// drawBlock is one that may be.
func drawBlock(r *rand.Rand) Block {
	level := r.IntN(5)
	low := r.Int64N(1<<(1+r.IntN(40))) / widths[level] * widths[level]
	if r.IntN(10) == 0 {
		low = end
	}
	b := block(level, low)
	for _, k := range drawKeys(r, 1+r.IntN(5)) {
		b.Rows = append(b.Rows, row(k, drawSamples(r, b.Low, b.High, 1+r.IntN(1<<r.IntN(7)))...))
	}
	return b
}

func TestDrawnBlocks(t *testing.T) {
	r := rand.New(rand.NewPCG(16, 1))
	for range 300 {
		b := drawBlock(r)
		checkRight(t, "drawn", b)
		inner := pack(bitsOf(b))
		if !against(t, inner) {
			t.Errorf("%v isn't read", b)
		}
		its := sealed(bitsOf(b))
		checkRefused(t, "a byte less", its[:len(its)-1], api.ErrShort)
		checkRefused(t, "a byte more", append(its, 0), api.ErrForm)
		checkRefused(t, "a byte less sealed", seal(inner[:len(inner)-1]), api.ErrForm)
		checkRefused(t, "a byte more sealed", seal(append(slices.Clone(inner), 0)), api.ErrForm)
		checkRefused(t, "twice sealed", seal(slices.Concat(inner, inner)), api.ErrForm)
	}
}

// Each bit turned, each beginning, and a byte more, sealed anew.
func TestSpoilt(t *testing.T) {
	r := rand.New(rand.NewPCG(16, 2))
	all := [][]byte{
		pack(bitsOf(block(0, 0, row("", api.Sample{H: counter(0, nil, nil)})))),
		pack(bitsOf(block(4, end, row(key("a", "b", "b", "a"), samples(end)...)))),
		pack(bitsOf(block(1, 256, row("", samples(256, 300)...), row(key("a", "x"), samples(257)...), row(key("a", "y", "b", "x"), samples(511)...)))),
	}
	for range 12 {
		all = append(all, pack(bitsOf(drawBlock(r))))
	}
	for _, was := range all {
		for long := range was[:min(len(was), 300)] {
			against(t, was[:long])
		}
		for _, more := range []byte{0, 1, 128, 255} {
			against(t, append(slices.Clone(was), more))
		}
		for i := range min(8*len(was), 1000) {
			turned := slices.Clone(was)
			turned[i/8] ^= 128 >> (i % 8)
			against(t, turned)
			// And another one with it.
			k := r.IntN(8 * len(was))
			turned[k/8] ^= 128 >> (k % 8)
			against(t, turned)
		}
		// The beginning of one, and the end of another one.
		other := all[r.IntN(len(all))]
		against(t, slices.Concat(was[:r.IntN(len(was)+1)], other[r.IntN(len(other)+1):]))
	}
}

func TestManyBytes(t *testing.T) {
	r := rand.New(rand.NewPCG(16, 3))
	for range 20000 {
		b := make([]byte, r.IntN(40))
		for i := range b {
			b[i] = byte(r.Uint32())
		}
		against(t, b)
		if got, e := Decode(b); e == api.OK || !sameBlock(got, Block{}) {
			t.Fatalf("Decode of %v is %v, %d", b, got, e)
		}
	}
	for _, n := range []byte{0, 0x55, 0xaa, 0xff, 0x80} {
		checkRefused(t, "very many bytes", seal(bytes.Repeat([]byte{n}, 1<<16)), api.ErrForm)
	}
}

// drawTimes are times of some keys, some of which rows have.
func drawTimes(r *rand.Rand, rows []Row) map[string][]int64 {
	gone := map[string][]int64{}
	for _, x := range flatten(rows) {
		switch r.IntN(4) {
		case 0:
			gone[x.key] = append(gone[x.key], x.s.T)
		case 1:
			gone[x.key] = append(gone[x.key], r.Int64N(1<<14))
		}
	}
	return gone
}

func TestDrawnMakesAndJoins(t *testing.T) {
	r := rand.New(rand.NewPCG(16, 4))
	for range 300 {
		var rows []Row
		low := r.Int64N(1 << (1 + r.IntN(40)))
		for _, k := range drawKeys(r, r.IntN(6)) {
			var l []api.Sample
			if r.IntN(8) > 0 {
				l = drawSamples(r, low, low+1+r.Int64N(1<<(1+r.IntN(14))), 1+r.IntN(40))
			}
			rows = append(rows, row(k, l...))
		}
		var blocks []Block
		for level := range widths {
			checkMake(t, "drawn", level, rows)
			for _, b := range Make(level, rows) {
				if r.IntN(3) == 0 {
					blocks = append(blocks, b)
				}
			}
		}
		// Blocks of several levels have many times in common: those that begin earlier stand ahead.
		slices.SortStableFunc(blocks, func(a, b Block) int { return int(a.Low - b.Low) })
		gone := drawTimes(r, rows)
		checkJoin(t, "drawn", nil, blocks, modelJoin(nil, blocks))
		checkJoin(t, "drawn, without some", gone, blocks, modelJoin(gone, blocks))
		// Made of a level, then of another one.
		for level := range widths {
			made := Make(r.IntN(5), rows)
			if got := Make(level, Join(nil, made...)); !sameBlocks(got, modelMake(level, rows)) {
				t.Errorf("made anew by %d: %v", level, got)
			}
		}
	}
}

func TestDrawnIndexes(t *testing.T) {
	r := rand.New(rand.NewPCG(16, 5))
	texts := []string{`{}`, `{a0="a1"}`, `{a1=~"a.*"}`, `{b0!="b2",a0=""}`, `{a0=~"[ab]0",b1!~"c.*"}`, `{c2="c2"}`, `{a0!=""}`}
	for range 300 {
		b := rowed(drawKeys(r, r.IntN(20))...)
		want := map[api.Label][]int{}
		for i, x := range b.Rows {
			its := split(x.Key)
			for k := 0; k < len(its); k += 2 {
				l := api.Label{Name: its[k], Value: its[k+1]}
				want[l] = append(want[l], i)
			}
		}
		checkIndex(t, "drawn", b, want)
		for _, text := range texts {
			s, _ := match.Parse(text)
			var meant []int
			for i, x := range b.Rows {
				var l []api.Label
				its := split(x.Key)
				for k := 0; k < len(its); k += 2 {
					l = append(l, api.Label{Name: its[k], Value: its[k+1]})
				}
				if s.Match(l) {
					meant = append(meant, i)
				}
			}
			checkSelect(t, "drawn", b, s, meant...)
		}
	}
}

// The fields of a block are its Meta's.
func TestFields(t *testing.T) {
	b := block(2, 1024, row("", samples(1024)...))
	if b.Low != 1024 || b.High != 2048 || b.Level != 2 || b.Meta != (Meta{1024, 2048, 2}) {
		t.Errorf("a block is %v", b)
	}
}

// What may not be is told of, or nothing is, but all ends.
func TestAnything(t *testing.T) {
	wild := []int64{math.MinInt64, -65, -1, 0, 63, 64, end, end + 1, math.MaxInt64 - 1, math.MaxInt64}
	var l []api.Sample
	for i, at := range wild {
		l = append(l, api.Sample{T: at, H: api.Hist{Kind: i, Schema: -i, Count: 9, Pos: of(i, -i, 0, 0)}})
	}
	rows := []Row{row("a", l...), row("", l...), row("a", l[:3]...), row(key("a", "x"), l...), {}}
	s, _ := match.New()
	for level := -2; level < 8; level++ {
		Make(level, rows)
		b := Block{Meta: Meta{Low: math.MaxInt64, High: math.MinInt64, Level: level}, Rows: rows}
		checkWrong(t, "a block of anything", b, api.ErrRange)
		Join(nil, b, b, Block{})
		Index(b)
		Select(b, s)
		Select(b, nil)
	}
}

// What is handed in isn't kept, and what is handed out isn't another one's.

// withRoom has room behind its end that isn't to be touched.
func withRoom[T any](l ...T) []T { return append(slices.Clone(l), l...)[: len(l) : 2*len(l)] }

// spoil makes a list, with the room behind its end, one of zeros.
func spoil[T any](l []T) { clear(l[:cap(l)]) }

// spoilRows spoils all that rows have.
func spoilRows(rows []Row) {
	for _, r := range rows {
		for _, s := range r.Samples {
			spoil(s.H.Pos)
			spoil(s.H.Neg)
		}
		spoil(r.Samples)
	}
	spoil(rows)
}

// someRows are rows of their own, with room behind each list.
func someRows() []Row {
	h := func() api.Hist {
		h := full()
		h.Pos, h.Neg = withRoom(h.Pos...), withRoom(h.Neg...)
		return h
	}
	its := func(times ...int64) []api.Sample {
		var l []api.Sample
		for _, at := range times {
			l = append(l, api.Sample{T: at, H: h()})
		}
		return withRoom(l...)
	}
	return withRoom(row(key("a", "x"), its(64, 65, 130)...), row(key("b", "y"), its(66, 131, 132)...))
}

// cloned are rows as they are, without the room behind their lists.
func cloned(rows []Row) []Row {
	rows = slices.Clone(rows)
	for i := range rows {
		rows[i].Samples = slices.Clone(rows[i].Samples)
		for k := range rows[i].Samples {
			rows[i].Samples[k].H = hist.Clone(rows[i].Samples[k].H)
		}
	}
	return rows
}

// checkApart asserts that of rows each list is its own: one by one they are spoilt, and the others stay.
func checkApart(t *testing.T, what string, rows []Row) {
	t.Helper()
	was := cloned(rows)
	for i := range rows {
		for k := range rows[i].Samples {
			h := rows[i].Samples[k].H
			_ = append(h.Pos, api.Bucket{Index: 77})
			_ = append(h.Neg, api.Bucket{Index: 77})
			spoil(h.Pos)
			if !slices.Equal(h.Neg, was[i].Samples[k].H.Neg) {
				t.Errorf("%s: Neg is Pos", what)
			}
			spoil(h.Neg)
			for j := range rows {
				for m := range rows[j].Samples {
					if (j > i || j == i && m > k) && !sameHist(rows[j].Samples[m].H, was[j].Samples[m].H) {
						t.Errorf("%s: buckets are another one's", what)
					}
				}
			}
		}
		_ = append(rows[i].Samples, api.Sample{T: 77})
		spoil(rows[i].Samples)
		for j := i + 1; j < len(rows); j++ {
			if !sameSamples(rows[j].Samples, was[j].Samples) {
				t.Errorf("%s: samples are another one's", what)
			}
		}
	}
}

func TestOwnMemory(t *testing.T) {
	one := func() Block { return Block{Meta: Meta{Low: 0, High: 256, Level: 1}, Rows: someRows()} }
	s, _ := match.Parse(`{}`)
	// What rows, or blocks, are handed in goes, and with it nothing that was answered.
	for what, made := range map[string]func(Block) [][]Row{
		"Make": func(b Block) [][]Row {
			var l [][]Row
			for _, x := range Make(0, b.Rows) {
				l = append(l, x.Rows)
			}
			return l
		},
		"Make of one":      func(b Block) [][]Row { return [][]Row{Make(4, b.Rows)[0].Rows} },
		"Join":             func(b Block) [][]Row { return [][]Row{Join(nil, b)} },
		"Join with itself": func(b Block) [][]Row { return [][]Row{Join(nil, b, b)} },
		"Join without some": func(b Block) [][]Row {
			return [][]Row{Join(map[string]tomb.Set{key("a", "x"): tomb.Of(tomb.Range{From: 65, To: 65})}, b)}
		},
		"Select": func(b Block) [][]Row { return [][]Row{Select(b, s)} },
		"Decode": func(b Block) [][]Row {
			its, _ := Encode(b)
			x, _ := Decode(its)
			spoil(its)
			return [][]Row{x.Rows}
		},
	} {
		b := one()
		was := copiedBlock(b)
		got := made(b)
		want := made(one())
		spoilRows(b.Rows)
		if !slices.EqualFunc(got, want, sameRows) {
			t.Errorf("%s: what was answered is changed with what was handed in: %v", what, got)
		}
		// And the other way round.
		b = one()
		got = made(b)
		for _, rows := range got {
			spoilRows(rows)
		}
		if !sameBlock(copiedBlock(b), was) {
			t.Errorf("%s: what was handed in is changed with what was answered", what)
		}
		if again := made(b); !slices.EqualFunc(again, want, sameRows) {
			t.Errorf("%s: answered again: %v", what, again)
		}
		all := slices.Concat(made(b)...)
		checkApart(t, what, all)
	}
	b := one()
	places := Index(b)
	spoilRows(b.Rows)
	want := map[api.Label][]int{{Name: "a", Value: "x"}: {0}, {Name: "b", Value: "y"}: {1}}
	if !maps.EqualFunc(places, want, slices.Equal[[]int]) {
		t.Errorf("Index is changed: %v", places)
	}
	b = rowed(key("a", "x", "b", "y"), key("a", "x", "b", "y", "c", "z"))
	places = Index(b)
	for _, l := range places {
		_ = append(l, 77)
		spoil(l)
	}
	clear(places)
	checkIndex(t, "spoilt", b, map[api.Label][]int{{Name: "a", Value: "x"}: {0, 1}, {Name: "b", Value: "y"}: {0, 1}, {Name: "c", Value: "z"}: {1}})
	// Bytes that are handed out are new ones, too.
	x, _ := Encode(one())
	y, _ := Encode(one())
	spoil(x)
	if again, e := Decode(y); e != api.OK || !sameBlock(again, one()) {
		t.Errorf("bytes are another one's: %v, %d", again, e)
	}
}
