package tests

import (
	"math"
	"math/rand"
	"slices"
	"strings"
	"testing"
	"unsafe"

	"loop.example/g00731/impl"
)

type diff = impl.Diff

func keep(text string) diff { return diff{Kind: impl.DfKeep, Text: text} }
func drop(text string) diff { return diff{Kind: impl.DfDrop, Text: text} }
func put(text string) diff  { return diff{Kind: impl.DfPut, Text: text} }

func sameDiffs(t *testing.T, what string, got []diff, want []diff) {
	t.Helper()
	if !slices.Equal(got, want) {
		t.Errorf("%q: got %#v, want %#v", what, got, want)
	}
}

// commonBySubsequences tries all that can be left of a, and looks whether it can be left of b.
func commonBySubsequences(a string, b string) int64 {
	most := 0
	for chosen := range 1 << len(a) {
		left, rest := 0, b
		for i := range len(a) {
			if chosen>>i&1 == 0 {
				continue
			}
			at := strings.IndexByte(rest, a[i])
			if at < 0 {
				left = -1
				break
			}
			left, rest = left+1, rest[at+1:]
		}
		most = max(most, left)
	}
	return int64(most)
}

// commonByRising looks for the longest rising row of places in b: no table, so that long texts are counted in another way.
func commonByRising(a string, b string) int64 {
	ends := []int{} // at n the first place where a row of n+1 can end
	for i := range len(a) {
		for j := len(b) - 1; j >= 0; j-- {
			if a[i] != b[j] {
				continue
			}
			at, _ := slices.BinarySearch(ends, j)
			if at == len(ends) {
				ends = append(ends, j)
			}
			ends[at] = j
		}
	}
	return int64(len(ends))
}

// diffByDocument goes byte by byte, as the document says it.
func diffByDocument(a string, b string) []diff {
	l := []diff{}
	add := func(d diff) {
		if len(l) > 0 && l[len(l)-1].Kind == d.Kind {
			l[len(l)-1].Text += d.Text
			return
		}
		l = append(l, d)
	}
	for a != "" || b != "" {
		switch {
		case a != "" && b != "" && a[0] == b[0]:
			add(keep(a[:1]))
			a, b = a[1:], b[1:]
		case a != "" && commonByRising(a[1:], b) == commonByRising(a, b):
			add(drop(a[:1]))
			a = a[1:]
		default:
			add(put(b[:1]))
			b = b[1:]
		}
	}
	return l
}

// textsOf are all texts of at most that many of these bytes.
func textsOf(bytes string, most int) []string {
	all, longest := []string{""}, []string{""}
	for range most {
		next := []string{}
		for _, t := range longest {
			for _, b := range strings.Split(bytes, "") {
				next = append(next, t+b)
			}
		}
		longest = next
		all = append(all, next...)
	}
	return all
}

// namedPairs are the edges that can be named: each is meant both ways round.
func namedPairs() [][2]string {
	one := strings.Repeat("a", impl.MaxLine)
	two := strings.Repeat("ab", impl.MaxLine/2)
	return [][2]string{
		{"", ""}, {"a", "a"}, {"one two", "one two"}, {fullText, fullText}, {one, one},
		{"", "a"}, {"", "one two"}, {"", fullText}, {"", one},
		{"a", "b"}, {"abc", "xyz"}, {one, strings.Repeat("b", impl.MaxLine)}, {"a", "A"}, {" ", "~"},
		{"one", "one two"}, {"two", "one two"}, {"ne t", "one two"}, {"oeto", "one two"}, {fullText[:30], fullText}, {fullText[30:], fullText}, {fullText[15:45], fullText},
		{"a", one}, {one[1:], one}, {one[30:], one}, {one, two}, {two, two[1:] + "a"}, {two, one[30:] + two[30:]},
		{"ab", "ba"}, {"abc", "cba"}, {"aab", "aba"}, {"abab", "baba"}, {"abcabba", "cbabac"}, {"abcd", "bxd"}, {"abc", "xbd"}, {"one two", "two one"},
		{printed()[:60], printed()[35:]}, {fullText, two},
	}
}

func bothWays(pairs [][2]string) [][2]string {
	l := [][2]string{}
	for _, p := range pairs {
		l = append(l, p, [2]string{p[1], p[0]})
	}
	return l
}

// longPairs are of few bytes or of many, some of them made of each other by a few changes.
func longPairs() [][2]string {
	r := rand.New(rand.NewSource(4))
	of := func(bytes string, size int) string {
		b := make([]byte, size)
		for i := range b {
			b[i] = bytes[r.Intn(len(bytes))]
		}
		return string(b)
	}
	l := [][2]string{}
	for i := range 300 {
		bytes := []string{"ab", "abc ", "one two", printed()}[i%4]
		a := of(bytes, r.Intn(impl.MaxLine+1))
		l = append(l, [2]string{a, of(bytes, r.Intn(impl.MaxLine+1))})
		from := r.Intn(len(a) + 1)
		to := from + r.Intn(len(a)-from+1)
		b := a[:from] + of(bytes, r.Intn(impl.MaxLine-len(a)+to-from+1)) + a[to:]
		l = append(l, [2]string{a, b})
	}
	return l
}

func somePairs() [][2]string {
	l := bothWays(namedPairs())
	for _, a := range textsOf("ab", 4) {
		for _, b := range textsOf("ab", 4) {
			l = append(l, [2]string{a, b})
		}
	}
	return append(l, longPairs()...)
}

func TestPromise4Common(t *testing.T) {
	one := strings.Repeat("a", impl.MaxLine)
	for _, x := range []struct {
		a, b string
		want int64
	}{
		{"", "", 0}, {"", "a", 0}, {"a", "a", 1}, {"a", "b", 0}, {"a", "A", 0},
		{"abcd", "bxd", 2}, {"ab", "ba", 1}, {"abcabba", "cbabac", 4}, {"one", "one two", 3}, {"oeto", "one two", 4},
		{fullText, fullText, 60}, {fullText, "", 0}, {one, one, 60}, {one, one[:1], 1}, {one, strings.Repeat("b", 60), 0}, {one, strings.Repeat("ab", 30), 30},
	} {
		same(t, x.a+"|"+x.b, impl.Common(x.a, x.b), x.want)
		same(t, x.b+"|"+x.a, impl.Common(x.b, x.a), x.want)
	}
	for _, p := range somePairs() {
		same(t, p[0]+"|"+p[1], impl.Common(p[0], p[1]), commonByRising(p[0], p[1]))
	}
	texts := append(textsOf("ab", 5), textsOf("abc", 3)...)
	for _, a := range texts {
		for _, b := range texts {
			same(t, a+"|"+b, impl.Common(a, b), commonBySubsequences(a, b))
		}
	}
}

func TestPromise4DiffOf(t *testing.T) {
	one := strings.Repeat("a", impl.MaxLine)
	for _, x := range []struct {
		a, b string
		want []diff
	}{
		{"", "", nil},
		{"a", "a", []diff{keep("a")}},
		{fullText, fullText, []diff{keep(fullText)}},
		{"", fullText, []diff{put(fullText)}},
		{fullText, "", []diff{drop(fullText)}},
		{"abc", "xyz", []diff{drop("abc"), put("xyz")}},
		{one, strings.Repeat("b", 60), []diff{drop(one), put(strings.Repeat("b", 60))}},
		{"one", "one two", []diff{keep("one"), put(" two")}},
		{"one two", "one", []diff{keep("one"), drop(" two")}},
		{"two", "one two", []diff{put("one "), keep("two")}},
		{"one two", "two", []diff{drop("one "), keep("two")}},
		{"one two", "oeto", []diff{keep("o"), drop("n"), keep("e"), drop(" "), keep("t"), drop("w"), keep("o")}},
		{"oeto", "one two", []diff{keep("o"), put("n"), keep("e"), put(" "), keep("t"), put("w"), keep("o")}},
		// Alike bytes: those that stand first are kept.
		{one, one[:20], []diff{keep(one[:20]), drop(one[:40])}},
		{one[:20], one, []diff{keep(one[:20]), put(one[:40])}},
		// As many can be left by dropping as by putting in: one drops.
		{"ab", "ba", []diff{drop("a"), keep("b"), put("a")}},
		{"ba", "ab", []diff{drop("b"), keep("a"), put("b")}},
		{"abc", "xbd", []diff{drop("a"), put("x"), keep("b"), drop("c"), put("d")}},
		// Dropping would leave fewer: one puts in.
		{"ab", "cab", []diff{put("c"), keep("ab")}},
		{"abc", "bcxabc", []diff{put("bcx"), keep("abc")}},
		// Keeping at once is not the only way to keep as many.
		{"aab", "ab", []diff{keep("a"), drop("a"), keep("b")}},
		{"ab", "aab", []diff{keep("a"), put("a"), keep("b")}},
		{"aba", "a", []diff{keep("a"), drop("ba")}},
		{"a", "aba", []diff{keep("a"), put("ba")}},
	} {
		sameDiffs(t, x.a+"|"+x.b, impl.DiffOf(x.a, x.b), x.want)
	}
	for _, p := range somePairs() {
		sameDiffs(t, p[0]+"|"+p[1], impl.DiffOf(p[0], p[1]), diffByDocument(p[0], p[1]))
	}
}

// changedAt is the place behind the last change of which b came, as long as something was changed.
func changedAt(l []diff, b string) int64 {
	if last := len(l) - 1; last >= 0 && l[last].Kind == impl.DfKeep && last > 0 {
		return int64(len(b) - len(l[last].Text))
	}
	return int64(len(b))
}

func TestPromise4MakesOfTheOneTheOther(t *testing.T) {
	for _, p := range somePairs() {
		a, b := p[0], p[1]
		l := impl.DiffOf(a, b)
		same(t, "right", impl.DiffRight(l), true)
		same(t, a+"|"+b, impl.ApplyTo(a, l), lineOut{Line: lineAt(b, changedAt(l, b))})
		same(t, "cost of "+a+"|"+b, impl.CostOf(l), int64(len(a)+len(b))-2*commonByRising(a, b))
		for i := 1; i < len(l); i++ {
			same(t, "dropped behind what is put in", l[i-1].Kind == impl.DfPut && l[i].Kind == impl.DfDrop, false)
		}
	}
}

func TestPromise4TextsThatAreNotRight(t *testing.T) {
	wrong := append(wrongTexts(), strings.Repeat("a", impl.MaxBytes+1), strings.Repeat("\n", impl.MaxBytes+1))
	for _, w := range wrong {
		for _, other := range append([]string{"", "a", fullText}, wrong...) {
			for _, p := range bothWays([][2]string{{w, other}}) {
				same(t, "Common", impl.Common(p[0], p[1]), -1)
				sameDiffs(t, "DiffOf", impl.DiffOf(p[0], p[1]), nil)
			}
		}
	}
	for i := range 256 {
		b := string([]byte{byte(i)})
		want := int64(-1)
		if 32 <= i && i <= 126 {
			want = 1
		}
		same(t, "Common "+b, impl.Common(b, "a"+b), want)
		same(t, "Common "+b, impl.Common("a"+b, b), want)
		same(t, "DiffOf "+b, len(impl.DiffOf(b, "")) > 0, want == 1)
		same(t, "DiffOf "+b, len(impl.DiffOf("", b)) > 0, want == 1)
	}
}

// manyDiffs are right ones of one byte each, put in and dropped in turn.
func manyDiffs(size int) []diff {
	l := []diff{}
	for i := range size {
		l = append(l, diff{Kind: int64(impl.DfDrop + i%2), Text: "a"})
	}
	return l
}

func wrongDiffs() [][]diff {
	l := [][]diff{
		{{}}, {{Kind: impl.DfKeep}}, {{Kind: impl.DfDrop}}, {{Kind: impl.DfPut}},
		{keep("a"), put("")}, {keep(""), put("a")}, {keep("a"), drop(""), keep("b")}, {drop("a"), keep("")},
		{keep("a"), keep("b")}, {drop("a"), drop("b")}, {put("a"), put("b")},
		{keep("a"), put("b"), put("c")}, {drop("a"), keep("b"), keep("b")}, {put("a"), drop("a"), drop("a"), keep("b")},
		append(manyDiffs(impl.MaxList-1), diff{}), append(manyDiffs(impl.MaxList-1), manyDiffs(impl.MaxList - 1)[impl.MaxList-2]),
		append([]diff{{}}, manyDiffs(impl.MaxList-1)...),
	}
	for _, kind := range []int64{0, 4, 5, -1, 257, 258, 1 << 32, 1<<32 + 1, math.MaxInt64, math.MinInt64} {
		l = append(l, []diff{{Kind: kind, Text: "a"}}, []diff{keep("a"), {Kind: kind, Text: "b"}}, []diff{{Kind: kind, Text: "a"}, keep("b")})
	}
	return l
}

func TestPromise4DiffRight(t *testing.T) {
	for _, l := range [][]diff{
		nil, {}, {keep("a")}, {drop("a")}, {put("a")}, {keep("a"), drop("a"), put("a")}, {put("a"), drop("a"), keep("a")},
		{keep("a"), put("b"), keep("a")}, {put("a"), drop("b"), put("c")}, {drop("a"), put("b"), drop("a")}, {put("a"), keep("b"), put("c")},
		{keep(fullText + fullText)}, {put("\x00")}, {drop("\u00e9"), put("\n")}, {put(strings.Repeat("a", impl.MaxBytes+1))},
		manyDiffs(impl.MaxList - 1), manyDiffs(impl.MaxList),
	} {
		same(t, "right", impl.DiffRight(l), true)
	}
	for _, l := range wrongDiffs() {
		same(t, "wrong", impl.DiffRight(l), false)
	}
	for _, size := range []int{impl.MaxList + 1, impl.MaxList + 2, 2 * impl.MaxList} {
		same(t, "too many", impl.DiffRight(manyDiffs(size)), false)
	}
}

func TestPromise4CostOf(t *testing.T) {
	long := strings.Repeat("\xff", impl.MaxBytes+1)
	for _, x := range []struct {
		l    []diff
		want int64
	}{
		{nil, 0}, {[]diff{}, 0},
		{[]diff{keep("abc")}, 0}, {[]diff{drop("abc")}, 3}, {[]diff{put("abcd")}, 4},
		{[]diff{keep("a"), drop("bc"), put("def")}, 5}, {[]diff{put("a"), keep("bc"), put("def"), drop("ghij")}, 8},
		{[]diff{drop("\u00e9"), put("\n")}, 3}, {[]diff{keep(long)}, 0}, {[]diff{put(long), drop(long)}, 2 * (impl.MaxBytes + 1)},
		{manyDiffs(impl.MaxList), impl.MaxList}, {manyDiffs(impl.MaxList + 1), -1},
	} {
		same(t, "cost", impl.CostOf(x.l), x.want)
	}
	for _, l := range wrongDiffs() {
		same(t, "cost of a wrong list", impl.CostOf(l), -1)
	}
}

func TestPromise4ApplyTo(t *testing.T) {
	for _, x := range []struct {
		a    string
		l    []diff
		want line
	}{
		{"", nil, line{}},
		{"", []diff{put("ab")}, lineAt("ab", 2)},
		{"ab", []diff{drop("ab")}, line{}},
		// Without any change one stands at the end.
		{"a", []diff{keep("a")}, lineAt("a", 1)},
		{fullText, []diff{keep(fullText)}, lineAt(fullText, 60)},
		// Behind what is put in last, with and without something kept behind it.
		{"ab", []diff{keep("ab"), put("xyz")}, lineAt("abxyz", 5)},
		{"ab", []diff{keep("a"), put("xyz"), keep("b")}, lineAt("axyzb", 4)},
		{"ab", []diff{put("xyz"), keep("ab")}, lineAt("xyzab", 3)},
		{"abc", []diff{drop("a"), put("x"), keep("b"), drop("c"), put("d")}, lineAt("xbd", 3)},
		// Where what is dropped last has stood.
		{"abcd", []diff{keep("ab"), drop("cd")}, lineAt("ab", 2)},
		{"abcd", []diff{drop("ab"), keep("cd")}, lineAt("cd", 0)},
		{"abcd", []diff{keep("a"), drop("bc"), keep("d")}, lineAt("ad", 1)},
		{"abcd", []diff{put("xy"), drop("ab"), keep("cd")}, lineAt("xycd", 2)},
		{"abcd", []diff{put("xy"), keep("a"), drop("b"), keep("cd")}, lineAt("xyacd", 3)},
		// No list of DiffOf, but a right one.
		{"ab", []diff{put("b"), drop("ab"), put("a")}, lineAt("ba", 2)},
		{"ab", []diff{drop("a"), put("a"), drop("b"), put("b")}, lineAt("ab", 2)},
		{"aab", []diff{drop("a"), keep("ab")}, lineAt("ab", 0)},
		// Dropped and put in, one is nowhere above what a line may have.
		{fullText, []diff{put(fullText), drop(fullText)}, lineAt(fullText, 60)},
		{fullText, []diff{keep(fullText[:59]), drop(fullText[59:]), put("~")}, lineAt(fullText[:59]+"~", 60)},
		{fullText[:59], []diff{keep(fullText[:30]), put("~"), keep(fullText[30:59])}, lineAt(fullText[:30]+"~"+fullText[30:59], 31)},
	} {
		same(t, "ApplyTo "+x.a, impl.ApplyTo(x.a, x.l), lineOut{Line: x.want})
	}
}

func TestPromise4ApplyToAnotherText(t *testing.T) {
	other := lineOut{Code: impl.ErrState}
	for _, x := range []struct {
		a string
		l []diff
	}{
		{"a", nil}, {"", []diff{keep("a")}}, {"", []diff{drop("a")}}, {"a", []diff{put("a")}},
		{"abc", []diff{keep("abd")}}, {"abc", []diff{drop("abd")}}, {"abc", []diff{keep("xbc")}}, {"abc", []diff{drop("axc")}}, {"abc", []diff{keep("abC")}},
		{"abc", []diff{keep("ab")}}, {"abc", []diff{drop("ab")}}, {"abc", []diff{keep("ab"), put("c")}}, {"abc", []diff{keep("a"), drop("b")}},
		{"abc", []diff{keep("abcd")}}, {"abc", []diff{drop("abcd")}}, {"abc", []diff{keep("abc"), drop("d")}}, {"abc", []diff{drop("abc"), put("x"), keep("d")}},
		{"abc", []diff{keep("bc"), drop("a")}}, {"abc", []diff{drop("b"), keep("ac")}}, {"abc", []diff{keep("ab"), put("x"), keep("bc")}},
		{"ab", []diff{keep("a\x00")}}, {"ab", []diff{keep("ab"), drop(strings.Repeat("a", impl.MaxBytes+1))}},
		{fullText, []diff{keep(fullText), drop(" ")}}, {fullText, []diff{keep(fullText[:59])}}, {"a", manyDiffs(impl.MaxList)},
	} {
		same(t, "another text than "+x.a, impl.ApplyTo(x.a, x.l), other)
	}
}

func TestPromise4ApplyToWhereItIsNoText(t *testing.T) {
	full := lineOut{Code: impl.ErrFull}
	for size := 1; size < impl.MaxLine; size++ {
		a, room := fullText[:size], impl.MaxLine-size
		just := impl.ApplyTo(a, []diff{put(fullText[:room]), keep(a)})
		same(t, "just full", just, lineOut{Line: lineAt(fullText[:room]+a, int64(room))})
		for _, l := range [][]diff{{put(fullText[:room+1]), keep(a)}, {keep(a), put(fullText[:room+1])}, {keep(a), put(fullText + fullText)}, {put(fullText[:room]), keep(a), put("a")}} {
			same(t, "one more, or many", impl.ApplyTo(a, l), full)
		}
	}
	same(t, "just full of nothing", impl.ApplyTo("", []diff{put(fullText)}), lineOut{Line: lineAt(fullText, 60)})
	same(t, "one more of nothing", impl.ApplyTo("", []diff{put(fullText + "a")}), full)
	same(t, "one more than a full line", impl.ApplyTo(fullText, []diff{keep(fullText), put("a")}), full)
	same(t, "one more instead of a full line", impl.ApplyTo(fullText, []diff{drop(fullText), put(fullText + "a")}), full)
	same(t, "more in two parts", impl.ApplyTo("ab", []diff{put(fullText[:30]), keep("ab"), put(fullText[:29])}), full)
	for _, w := range wrongTexts() {
		same(t, "alone", impl.ApplyTo("", []diff{put(w)}), full)
		same(t, "instead", impl.ApplyTo("ab", []diff{drop("ab"), put(w)}), full)
		same(t, "ahead", impl.ApplyTo("ab", []diff{put(w), keep("ab")}), full)
		same(t, "between", impl.ApplyTo("ab", []diff{keep("a"), put(w), keep("b")}), full)
	}
	for i := range 256 {
		b := string([]byte{byte(i)})
		want := full
		if 32 <= i && i <= 126 {
			want = lineOut{Line: lineAt("a"+b, 2)}
		}
		same(t, "byte "+b, impl.ApplyTo("a", []diff{keep("a"), put(b)}), want)
	}
}

func TestPromise4ApplyToFaultsInTheirOrder(t *testing.T) {
	size, form, state := lineOut{Code: impl.ErrSize}, lineOut{Code: impl.ErrForm}, lineOut{Code: impl.ErrState}
	right := []diff{keep("ab")}
	tooLong := []string{strings.Repeat("a", impl.MaxBytes+1), strings.Repeat("\n", impl.MaxBytes+1)}
	for _, a := range tooLong {
		for _, l := range append(wrongDiffs(), nil, right, []diff{keep(a)}, manyDiffs(impl.MaxList+1)) {
			same(t, "text too long to be handed in", impl.ApplyTo(a, l), size)
		}
	}
	for _, a := range append(wrongTexts(), "", "a", fullText) {
		same(t, "one Diff more than can be handed in", impl.ApplyTo(a, manyDiffs(impl.MaxList+1)), size)
		same(t, "many more, none right", impl.ApplyTo(a, make([]diff, 2*impl.MaxList)), size)
	}
	for _, a := range wrongTexts() {
		for _, l := range append(wrongDiffs(), nil, right, []diff{keep(a)}, []diff{drop(a)}, []diff{put("\n")}, manyDiffs(impl.MaxList)) {
			same(t, "text not right", impl.ApplyTo(a, l), form)
		}
	}
	for _, a := range []string{"", "a", "ab", fullText} {
		for _, l := range wrongDiffs() {
			same(t, "list not right", impl.ApplyTo(a, l), form)
		}
		// What is kept is of another text, and what would come of it no text: the first is told.
		for _, l := range [][]diff{{put(fullText + "a"), keep("b")}, {put("\n"), drop("b")}, {keep(a + "\x00")}, {put(fullText), keep(fullText + "a")}} {
			same(t, "another text", impl.ApplyTo(a, l), state)
		}
	}
	same(t, "not right, of another text, too long", impl.ApplyTo("a", []diff{put(fullText + "a"), keep("b"), keep("c")}), form)
}

func TestPromise4ListsOfTheirOwn(t *testing.T) {
	want := []diff{drop("a"), put("x"), keep("b"), drop("c"), put("d")}
	first, second := impl.DiffOf("abc", "xbd"), impl.DiffOf("abc", "xbd")
	for i := range first {
		first[i] = diff{Kind: 9, Text: "turned"}
	}
	_ = append(first[:1], first...)
	sameDiffs(t, "handed back ahead", second, want)
	sameDiffs(t, "handed back behind", impl.DiffOf("abc", "xbd"), want)
	impl.DiffRight(second)
	impl.CostOf(second)
	impl.ApplyTo("abc", second)
	impl.ApplyTo("abd", second)
	sameDiffs(t, "handed in", second, want)
}

// shares tells whether a piece stands in the very memory of a text.
func shares(piece string, text string) bool {
	from := uintptr(unsafe.Pointer(unsafe.StringData(text)))
	at := uintptr(unsafe.Pointer(unsafe.StringData(piece)))
	return len(piece) > 0 && from <= at && at < from+uintptr(len(text))
}

func TestPromise4NewMemory(t *testing.T) {
	for _, p := range somePairs() {
		a, b := strings.Clone(p[0]), strings.Clone(p[1])
		l := impl.DiffOf(a, b)
		text := impl.ApplyTo(a, l).Line.Text
		same(t, "the text handed in", shares(text, a), false)
		for _, d := range l {
			same(t, "a text handed in", shares(d.Text, a) || shares(d.Text, b), false)
			same(t, "a Diff handed in", shares(text, d.Text) && len(text) > 1, false)
		}
	}
}
