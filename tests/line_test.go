package tests

import (
	"math"
	"math/rand"
	"regexp"
	"strings"
	"testing"

	"loop.example/g00731/impl"
)

type line = impl.Line

type lineOut = impl.LineOut

func lineAt(text string, at int64) line {
	return line{Text: text, At: at}
}

// fullText has just as many bytes as a line may have: words, signs and blanks.
const fullText = "one two-three 4four, FIVE~six  7 (eight) Nine9 +ten/ eleven!"

func printed() string {
	b := []byte{}
	for i := byte(32); i <= 126; i++ {
		b = append(b, i)
	}
	return string(b)
}

// wrongTexts are no texts of a line.
func wrongTexts() []string {
	return []string{
		"\x00", "\x1f", "\x7f", "\x80", "\xff", "\t", "\n", "a\tb", "ab\x1f", "\x7fab", "a\x80", "\xc3\xa9", "a\u00e9b", "\u20ac", "\ufffd", "a\xc3", "\U0001f600",
		fullText + " ", strings.Repeat("a", impl.MaxLine+1), strings.Repeat("a", impl.MaxBytes),
		fullText[1:] + "\n", "\n" + fullText[1:],
	}
}

// wrongLines are no lines: of each the text is wrong, or the place, or both.
func wrongLines() []line {
	l := []line{
		{Text: "", At: -1}, {Text: "", At: 1}, {Text: "ab", At: -1}, {Text: "ab", At: 3},
		{Text: "one two", At: math.MaxInt64}, {Text: "one two", At: math.MinInt64},
		{Text: fullText, At: impl.MaxLine + 1}, {Text: fullText, At: -1},
		{Text: strings.Repeat("a", impl.MaxBytes+1)},
	}
	for _, t := range wrongTexts() {
		l = append(l, line{Text: t}, line{Text: t, At: int64(len(t))}, line{Text: t, At: -1})
	}
	return l
}

// placesOf are all lines of that text, one for each place in it.
func placesOf(text string) []line {
	l := []line{}
	for at := range len(text) + 1 {
		l = append(l, line{Text: text, At: int64(at)})
	}
	return l
}

// shortLines are all lines of at most four of these bytes: letters of both cases, a digit, a blank and a sign.
func shortLines() []line {
	texts := []string{""}
	l := placesOf("")
	for range 4 {
		next := []string{}
		for _, t := range texts {
			for _, b := range []string{"a", "Z", "5", " ", "_"} {
				next = append(next, t+b)
				l = append(l, placesOf(t+b)...)
			}
		}
		texts = next
	}
	return l
}

func someLines() []line {
	l := shortLines()
	for _, t := range []string{"one two", "  one  two  ", "...one,,two...", "a-b c", "4 5", "x1y2 3z", " ", "-- --", printed()[:60], printed()[35:], fullText} {
		l = append(l, placesOf(t)...)
	}
	r := rand.New(rand.NewSource(3))
	all := printed()
	for range 200 {
		b := make([]byte, r.Intn(impl.MaxLine+1))
		for i := range b {
			b[i] = all[r.Intn(len(all))]
		}
		l = append(l, line{Text: string(b), At: int64(r.Intn(len(b) + 1))})
	}
	return l
}

func TestTextRight(t *testing.T) {
	for i := range 256 {
		b := string([]byte{byte(i)})
		want := 32 <= i && i <= 126
		same(t, "alone "+b, impl.TextRight(b), want)
		same(t, "first "+b, impl.TextRight(b+fullText[1:]), want)
		same(t, "between "+b, impl.TextRight("a"+b+"a"), want)
		same(t, "last "+b, impl.TextRight(fullText[1:]+b), want)
	}
	for _, size := range []int{0, 1, 2, impl.MaxLine - 1, impl.MaxLine, impl.MaxLine + 1, impl.MaxLine + 2, impl.MaxBytes, impl.MaxBytes + 1} {
		same(t, "size", impl.TextRight(strings.Repeat("a", size)), size <= impl.MaxLine)
	}
	for _, x := range wrongTexts() {
		same(t, x, impl.TextRight(x), false)
	}
	same(t, "full", len(fullText), impl.MaxLine)
	same(t, "full", impl.TextRight(fullText), true)
}

func TestLineRight(t *testing.T) {
	for _, text := range []string{"", "a", "ab", "one two", fullText} {
		size := int64(len(text))
		for at := int64(-2); at <= size+2; at++ {
			same(t, "place in "+text, impl.LineRight(line{Text: text, At: at}), 0 <= at && at <= size)
		}
	}
	for _, l := range wrongLines() {
		same(t, "wrong line", impl.LineRight(l), false)
	}
	same(t, "zero", impl.LineRight(line{}), true)
}

func TestWrongLinesAreRefused(t *testing.T) {
	refused := lineOut{Code: impl.ErrForm}
	for _, l := range wrongLines() {
		for _, put := range []string{"", "x", "\t", fullText, fullText + "x"} {
			same(t, "Insert", impl.Insert(l, put), refused)
		}
		for _, place := range []int64{-1, 0, 1, impl.MaxLine + 1, math.MaxInt64} {
			same(t, "Erase", impl.Erase(l, 0, place), refused)
			same(t, "Erase", impl.Erase(l, place, place), refused)
		}
		same(t, "WordBack", impl.WordBack(l), -1)
		same(t, "WordOn", impl.WordOn(l), -1)
		same(t, "SwapTwo", impl.SwapTwo(l), refused)
		same(t, "CaseWord", impl.CaseWord(l, true), refused)
		same(t, "CaseWord", impl.CaseWord(l, false), refused)
	}
}

func TestPromise3Insert(t *testing.T) {
	for _, x := range []struct {
		l    line
		put  string
		want line
	}{
		{line{}, "", line{}},
		{line{}, "ab", lineAt("ab", 2)},
		{lineAt("one two", 0), "x ", lineAt("x one two", 2)},
		{lineAt("one two", 4), "x ", lineAt("one x two", 6)},
		{lineAt("one two", 7), "!", lineAt("one two!", 8)},
		{lineAt("one two", 3), "", lineAt("one two", 3)},
		{line{}, fullText, lineAt(fullText, 60)},
		{lineAt(fullText, 0), "", lineAt(fullText, 0)},
		{lineAt(fullText, 60), "", lineAt(fullText, 60)},
		{lineAt(fullText[:59], 30), "~", lineAt(fullText[:30]+"~"+fullText[30:59], 31)},
	} {
		same(t, "Insert "+x.put, impl.Insert(x.l, x.put), lineOut{Line: x.want})
	}
	for _, l := range someLines() {
		for _, put := range []string{"", " ", "ab", "one two three", fullText[:60-len(l.Text)]} {
			if len(l.Text)+len(put) > impl.MaxLine {
				continue
			}
			want := line{Text: l.Text[:l.At] + put + l.Text[l.At:], At: l.At + int64(len(put))}
			same(t, "Insert "+put, impl.Insert(l, put), lineOut{Line: want})
		}
	}
}

func TestPromise3InsertWhatIsNotRight(t *testing.T) {
	lines := []line{{}, {Text: "one two", At: 4}, {Text: fullText}, {Text: fullText, At: impl.MaxLine}}
	for _, l := range lines {
		for _, put := range wrongTexts() {
			same(t, "no text", impl.Insert(l, put), lineOut{Code: impl.ErrForm})
		}
	}
	// What is too long to be handed in at all is told ahead of all else, of a wrong line too.
	for _, l := range append(wrongLines(), lines...) {
		for _, put := range []string{strings.Repeat("a", impl.MaxBytes+1), strings.Repeat("\n", 2*impl.MaxBytes)} {
			same(t, "too long to be handed in", impl.Insert(l, put), lineOut{Code: impl.ErrSize})
		}
	}
}

func TestPromise3InsertWhereThereIsNoRoom(t *testing.T) {
	full := lineOut{Code: impl.ErrFull}
	for size := range impl.MaxLine + 1 {
		for _, at := range []int64{0, int64(size / 2), int64(size)} {
			l := line{Text: fullText[:size], At: at}
			room := impl.MaxLine - size
			got := impl.Insert(l, fullText[:room])
			same(t, "just full", got.Code, impl.OK)
			same(t, "just full", len(got.Line.Text), impl.MaxLine)
			if room < impl.MaxLine {
				same(t, "one more", impl.Insert(l, fullText[:room+1]), full)
				same(t, "a whole line more", impl.Insert(l, fullText), full)
			}
		}
	}
}

func TestPromise3Erase(t *testing.T) {
	const text = "one two"
	for _, x := range []struct {
		at, from, to int64
		want         lineOut
	}{
		{4, 3, 7, lineOut{Line: lineAt("one", 3), Gone: " two"}},
		{4, 0, 2, lineOut{Line: lineAt("e two", 2), Gone: "on"}},
		{1, 2, 5, lineOut{Line: lineAt("onwo", 1), Gone: "e t"}},
		{2, 2, 5, lineOut{Line: lineAt("onwo", 2), Gone: "e t"}},
		{3, 2, 5, lineOut{Line: lineAt("onwo", 2), Gone: "e t"}},
		{5, 2, 5, lineOut{Line: lineAt("onwo", 2), Gone: "e t"}},
		{6, 2, 5, lineOut{Line: lineAt("onwo", 3), Gone: "e t"}},
		{7, 2, 5, lineOut{Line: lineAt("onwo", 4), Gone: "e t"}},
		{0, 0, 7, lineOut{Gone: text}},
		{3, 0, 7, lineOut{Gone: text}},
		{7, 0, 7, lineOut{Gone: text}},
		{4, 0, 0, lineOut{Line: lineAt(text, 4)}},
		{4, 4, 4, lineOut{Line: lineAt(text, 4)}},
		{4, 7, 7, lineOut{Line: lineAt(text, 4)}},
	} {
		same(t, "Erase", impl.Erase(lineAt(text, x.at), x.from, x.to), x.want)
	}
	same(t, "nothing of nothing", impl.Erase(line{}, 0, 0), lineOut{})
	same(t, "all of a full line", impl.Erase(lineAt(fullText, 30), 0, 60), lineOut{Gone: fullText})
}

func TestPromise3EraseOutOfTheLine(t *testing.T) {
	for _, text := range []string{"", "a", "one two", fullText} {
		size := int64(len(text))
		for at := int64(0); at <= size; at += 1 + size/3 {
			l := line{Text: text, At: at}
			for _, x := range [][2]int64{
				{-1, 0}, {-1, -1}, {-1, size}, {0, -1}, {0, size + 1}, {size, size + 1}, {size + 1, size + 1}, {size + 1, size}, {size + 2, 0},
				{math.MinInt64, 0}, {0, math.MinInt64}, {0, math.MaxInt64}, {math.MaxInt64, math.MaxInt64}, {math.MinInt64, math.MaxInt64}, {math.MaxInt64, math.MinInt64},
			} {
				same(t, "out of the line", impl.Erase(l, x[0], x[1]), lineOut{Code: impl.ErrRange})
			}
			for to := range size {
				same(t, "from above to", impl.Erase(l, to+1, to), lineOut{Code: impl.ErrRange})
				same(t, "from above to", impl.Erase(l, size, to), lineOut{Code: impl.ErrRange})
			}
		}
	}
}

func TestPromise3PutInAndErased(t *testing.T) {
	for _, l := range someLines() {
		room := impl.MaxLine - len(l.Text)
		for _, put := range []string{"", " ", "a", "ab 12", "!\"#$%", fullText[:room]} {
			if len(put) > room {
				continue
			}
			in := impl.Insert(l, put)
			same(t, "put in", in.Code, impl.OK)
			out := impl.Erase(in.Line, l.At, in.Line.At)
			same(t, "put in and erased", out, lineOut{Line: l, Gone: put})
		}
	}
}

func TestPromise3ErasedAndPutIn(t *testing.T) {
	for _, l := range someLines() {
		size := int64(len(l.Text))
		for from := int64(0); from <= size; from++ {
			for to := from; to <= size; to++ {
				checkErasedAndPutIn(t, l, from, to)
			}
		}
	}
}

func checkErasedAndPutIn(t *testing.T, l line, from int64, to int64) {
	t.Helper()
	out := impl.Erase(l, from, to)
	// One stands behind as many of the bytes that are left as one did ahead.
	at := l.At - (min(l.At, to) - min(l.At, from))
	want := line{Text: l.Text[:from] + l.Text[to:], At: at}
	same(t, "erased", out, lineOut{Line: want, Gone: l.Text[from:to]})
	back := impl.Insert(line{Text: out.Line.Text, At: from}, out.Gone)
	same(t, "erased and put in", back, lineOut{Line: line{Text: l.Text, At: to}})
	if from <= l.At && l.At <= to {
		same(t, "erased and put in where one stands", impl.Insert(out.Line, out.Gone), back)
	}
}

var aWord = regexp.MustCompile("[a-zA-Z0-9]+")

func wordBackByDocument(l line) int64 {
	begin := 0
	for _, w := range aWord.FindAllStringIndex(l.Text, -1) {
		if int64(w[0]) < l.At {
			begin = w[0]
		}
	}
	return int64(begin)
}

func wordOnByDocument(l line) int64 {
	for _, w := range aWord.FindAllStringIndex(l.Text, -1) {
		if int64(w[1]) > l.At {
			return int64(w[1])
		}
	}
	return int64(len(l.Text))
}

func TestWords(t *testing.T) {
	for _, x := range []struct {
		text string
		back []int64
		on   []int64
	}{
		{"", []int64{0}, []int64{0}},
		{"a", []int64{0, 0}, []int64{1, 1}},
		{" ", []int64{0, 0}, []int64{1, 1}},
		{"-- ", []int64{0, 0, 0, 0}, []int64{3, 3, 3, 3}},
		{"ab cd", []int64{0, 0, 0, 0, 3, 3}, []int64{2, 2, 5, 5, 5, 5}},
		{"a1 ,B", []int64{0, 0, 0, 0, 0, 4}, []int64{2, 2, 5, 5, 5, 5}},
		{" 9z ", []int64{0, 0, 1, 1, 1}, []int64{3, 3, 3, 4, 4}},
		{"a_b", []int64{0, 0, 0, 2}, []int64{1, 3, 3, 3}},
	} {
		for i, l := range placesOf(x.text) {
			same(t, "WordBack "+x.text, impl.WordBack(l), x.back[i])
			same(t, "WordOn "+x.text, impl.WordOn(l), x.on[i])
		}
	}
	for _, l := range someLines() {
		same(t, "WordBack "+l.Text, impl.WordBack(l), wordBackByDocument(l))
		same(t, "WordOn "+l.Text, impl.WordOn(l), wordOnByDocument(l))
	}
}

func TestBytesOfWords(t *testing.T) {
	for _, b := range strings.Split(printed(), "") {
		text := "a" + b + "a"
		back, on := int64(2), int64(1)
		if aWord.MatchString(b) {
			back, on = 0, 3
		}
		same(t, "WordBack "+text, impl.WordBack(lineAt(text, 3)), back)
		same(t, "WordOn "+text, impl.WordOn(lineAt(text, 0)), on)
	}
}

func TestSwapTwo(t *testing.T) {
	none := lineOut{Code: impl.ErrNone}
	for _, l := range []line{{}, {Text: "a"}, {Text: "a", At: 1}, {Text: "ab"}, {Text: "one two"}, {Text: fullText}} {
		same(t, "nothing to swap", impl.SwapTwo(l), none)
	}
	for _, x := range []struct{ l, want line }{
		{lineAt("ab", 1), lineAt("ba", 2)},
		{lineAt("ab", 2), lineAt("ba", 2)},
		{lineAt("abc", 1), lineAt("bac", 2)},
		{lineAt("abc", 2), lineAt("acb", 3)},
		{lineAt("abc", 3), lineAt("acb", 3)},
		{lineAt("a ", 1), lineAt(" a", 2)},
		{lineAt("aab", 1), lineAt("aab", 2)},
		{lineAt(fullText, 60), lineAt(fullText[:58]+"!n", 60)},
		{lineAt(fullText, 59), lineAt(fullText[:58]+"!n", 60)},
		{lineAt(fullText, 58), lineAt(fullText[:57]+"ne!", 59)},
	} {
		same(t, "SwapTwo "+x.l.Text, impl.SwapTwo(x.l), lineOut{Line: x.want})
	}
	for _, l := range someLines() {
		if l.At == 0 || len(l.Text) < 2 {
			same(t, "nothing to swap", impl.SwapTwo(l), none)
			continue
		}
		at := l.At
		if at == int64(len(l.Text)) {
			at--
		}
		want := l.Text[:at-1] + l.Text[at:at+1] + l.Text[at-1:at] + l.Text[at+1:]
		same(t, "SwapTwo "+l.Text, impl.SwapTwo(l), lineOut{Line: line{Text: want, At: at + 1}})
	}
}

func TestCaseWord(t *testing.T) {
	for _, x := range []struct {
		l     line
		upper line
		lower line
	}{
		{lineAt("One tWo", 0), lineAt("ONE tWo", 3), lineAt("one tWo", 3)},
		{lineAt("OnE tWo", 1), lineAt("ONE tWo", 3), lineAt("One tWo", 3)},
		{lineAt("OnE tWo", 3), lineAt("OnE TWO", 7), lineAt("OnE two", 7)},
		{lineAt("OnE tWo", 4), lineAt("OnE TWO", 7), lineAt("OnE two", 7)},
		{lineAt("a, bC", 1), lineAt("a, BC", 5), lineAt("a, bc", 5)},
		{lineAt("aB3cD e", 1), lineAt("aB3CD e", 5), lineAt("ab3cd e", 5)},
		{lineAt("123 aB", 0), lineAt("123 aB", 3), lineAt("123 aB", 3)},
		{lineAt("aB  ", 2), lineAt("aB  ", 4), lineAt("aB  ", 4)},
		{lineAt("--", 0), lineAt("--", 2), lineAt("--", 2)},
		{lineAt("`{@[ zZ", 0), lineAt("`{@[ ZZ", 7), lineAt("`{@[ zz", 7)},
	} {
		same(t, "upper "+x.l.Text, impl.CaseWord(x.l, true), lineOut{Line: x.upper})
		same(t, "lower "+x.l.Text, impl.CaseWord(x.l, false), lineOut{Line: x.lower})
	}
	for _, l := range someLines() {
		checkCaseWord(t, l)
	}
}

func checkCaseWord(t *testing.T, l line) {
	t.Helper()
	to := wordOnByDocument(l)
	upper, lower := impl.CaseWord(l, true), impl.CaseWord(l, false)
	if l.At == int64(len(l.Text)) {
		same(t, "at the end", upper, lineOut{Code: impl.ErrNone})
		same(t, "at the end", lower, lineOut{Code: impl.ErrNone})
		return
	}
	first, word, last := l.Text[:l.At], l.Text[l.At:to], l.Text[to:]
	same(t, "upper "+l.Text, upper, lineOut{Line: line{Text: first + strings.ToUpper(word) + last, At: to}})
	same(t, "lower "+l.Text, lower, lineOut{Line: line{Text: first + strings.ToLower(word) + last, At: to}})
}
