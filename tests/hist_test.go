package tests

import (
	"encoding/binary"
	"hash/crc32"
	"math"
	"math/rand"
	"slices"
	"strings"
	"testing"

	"loop.example/g00731/impl"
)

type hist = impl.Hist

type histOut = impl.HistOut

func histAt(at int64, kept string, lines ...string) hist {
	return hist{Lines: lines, At: at, Kept: kept}
}

// atEnd is such a Hist in which one has not gone back.
func atEnd(lines ...string) hist {
	return histAt(int64(len(lines)), "", lines...)
}

func equalHists(a hist, b hist) bool {
	return a.At == b.At && a.Kept == b.Kept && slices.Equal(a.Lines, b.Lines)
}

func sameHist(t *testing.T, what string, got hist, want hist) {
	t.Helper()
	if !equalHists(got, want) {
		t.Errorf("%.80q: got %.400v, want %.400v", what, got, want)
	}
}

func sameHistOut(t *testing.T, what string, got histOut, want histOut) {
	t.Helper()
	if got.Code != want.Code || got.Text != want.Text || !equalHists(got.Hist, want.Hist) {
		t.Errorf("%.80q: got %.400v, want %.400v", what, got, want)
	}
}

// manyFull are right texts of MaxLine bytes, no two alike.
func manyFull(size int) []string {
	l := []string{}
	for i := range size {
		l = append(l, fullText[:impl.MaxLine-2]+string([]byte{byte(' ' + i), byte('~' - i)}))
	}
	return l
}

// lineLists are the Lines of right Hists: none, one, and so on up to MaxHist.
func lineLists() [][]string {
	l := [][]string{nil, {}, {" "}, {"~"}, {"one", "two", "one"}, {"a", "ab", "abc", "b", "bc", "c", "abc abc"}, {"now", "kept"}}
	for size := 1; size <= impl.MaxHist; size++ {
		l = append(l, manyTexts(size), slices.Repeat([]string{"alike"}, size))
	}
	return append(l, manyFull(1), manyFull(impl.MaxHist-1), manyFull(impl.MaxHist))
}

// rightHists are of such Lines, at all places, with a Kept of each kind.
func rightHists() []hist {
	l := []hist{}
	for _, lines := range lineLists() {
		for at := range len(lines) + 1 {
			for _, kept := range []string{"", "kept", fullText, " ~"} {
				l = append(l, histAt(int64(at), kept, lines...))
			}
		}
	}
	for _, b := range strings.Split(printed(), "") {
		l = append(l, histAt(0, b), histAt(1, b+fullText[1:], "a", fullText[1:]+b), atEnd(b))
	}
	return l
}

func histPlaces(size int64) []int64 {
	return []int64{
		-1, -2, -256, size + 1, size + 2, size + impl.MaxHist, size + 256, size + 1<<32, size - 1<<32,
		math.MaxInt64, math.MaxInt64 - 1, math.MinInt64, math.MinInt64 + 1,
	}
}

// wrongHists are no Hists: of each a line is wrong, or how many there are, or the place, or Kept.
func wrongHists() []hist {
	l := []hist{
		atEnd(""), atEnd("", "a"), atEnd("a", ""), atEnd("a", "", "b"), histAt(0, "kept", ""),
		atEnd(append(manyTexts(impl.MaxHist-1), "")...), atEnd(append([]string{""}, manyTexts(impl.MaxHist-1)...)...),
	}
	for _, size := range []int{0, 1, 2, impl.MaxHist - 1, impl.MaxHist} {
		for _, at := range histPlaces(int64(size)) {
			l = append(l, histAt(at, "", manyTexts(size)...), histAt(at, "kept", manyTexts(size)...))
		}
	}
	for _, size := range []int{impl.MaxHist + 1, impl.MaxHist + 2, impl.MaxList, impl.MaxList + 1, 2 * impl.MaxList} {
		l = append(l, histAt(0, "", manyTexts(size)...), histAt(impl.MaxHist, "", manyTexts(size)...), atEnd(manyTexts(size)...))
	}
	for _, w := range append(wrongTexts(), strings.Repeat("a", impl.MaxBytes+1)) {
		all := manyTexts(impl.MaxHist)
		all[7] = w
		l = append(l, atEnd(w), histAt(0, "", w, "a"), histAt(1, "", "a", w), histAt(impl.MaxHist, "", all...))
		l = append(l, histAt(0, w), histAt(0, w, "a"), histAt(1, w, "a"), histAt(3, w, manyTexts(impl.MaxHist)...))
	}
	return l
}

// histTexts are all right, some of them alike to what is in Lines, or to Kept.
func histTexts() []string {
	return []string{"", "a", "abc", "~", " ", "now", "kept", "alike", "one", "kill a", manyTexts(impl.MaxHist)[11], manyFull(impl.MaxHist)[11], fullText[:59], fullText}
}

// tooLongTexts are of more bytes than can be handed in, though some of them are printed.
func tooLongTexts() []string {
	return []string{strings.Repeat("a", impl.MaxBytes+1), strings.Repeat("\n", 2*impl.MaxBytes)}
}

func rightText(t string) bool {
	return len(t) <= impl.MaxLine && printedBytes(t)
}

func histRightByDocument(h hist) bool {
	for _, x := range h.Lines {
		if !rightText(x) || len(x) == 0 {
			return false
		}
	}
	many := int64(len(h.Lines))
	return many <= impl.MaxHist && h.At >= 0 && h.At <= many && rightText(h.Kept)
}

// histPutByDocument goes sentence by sentence for a right Hist and a right text.
func histPutByDocument(h hist, t string) hist {
	lines := slices.Clone(h.Lines)
	if t != "" && (len(lines) == 0 || lines[len(lines)-1] != t) {
		lines = append(lines, t)
	}
	if len(lines) > impl.MaxHist {
		lines = slices.Delete(lines, 0, 1)
	}
	return atEnd(lines...)
}

// wayByDocument goes sentence by sentence for a right Hist and a right text: back with a step of -1, on with 1.
func wayByDocument(h hist, now string, step int64) histOut {
	many := int64(len(h.Lines))
	if step < 0 && h.At == 0 || step > 0 && h.At == many {
		return histOut{Code: impl.ErrNone}
	}
	if step < 0 && h.At == many {
		h.Kept = now
	}
	h.At += step
	texts := append(slices.Clone(h.Lines), h.Kept)
	return histOut{Hist: h, Text: texts[h.At]}
}

func TestPromise7HistRight(t *testing.T) {
	for _, h := range rightHists() {
		same(t, "right", impl.HistRight(h), true)
		same(t, "right", histRightByDocument(h), true)
	}
	for _, h := range wrongHists() {
		same(t, "wrong", impl.HistRight(h), false)
		same(t, "wrong", histRightByDocument(h), false)
	}
	for size := range impl.MaxHist + 3 {
		for at := int64(-2); at <= impl.MaxHist+4; at++ {
			h := histAt(at, "", manyTexts(size)...)
			same(t, "place", impl.HistRight(h), histRightByDocument(h))
		}
	}
	for i := range 256 {
		b := string([]byte{byte(i)})
		want := 32 <= i && i <= 126
		same(t, "alone "+b, impl.HistRight(atEnd(b)), want)
		same(t, "first "+b, impl.HistRight(atEnd(b+"a", "b")), want)
		same(t, "last "+b, impl.HistRight(atEnd(append(manyTexts(impl.MaxHist-1), "a"+b)...)), want)
		same(t, "kept "+b, impl.HistRight(histAt(0, b)), want)
		same(t, "kept "+b, impl.HistRight(histAt(1, "a"+b, "one", "two")), want)
	}
	for _, size := range []int{0, 1, 2, impl.MaxLine - 1, impl.MaxLine, impl.MaxLine + 1, impl.MaxBytes, impl.MaxBytes + 1} {
		text := strings.Repeat("a", size)
		same(t, "size alone", impl.HistRight(atEnd(text)), 1 <= size && size <= impl.MaxLine)
		same(t, "size of the last one", impl.HistRight(atEnd(append(manyTexts(impl.MaxHist-1), text)...)), 1 <= size && size <= impl.MaxLine)
		same(t, "size of Kept", impl.HistRight(histAt(0, text, "a")), size <= impl.MaxLine)
	}
}

func TestPromise7HistPut(t *testing.T) {
	full := manyTexts(impl.MaxHist)
	for _, x := range []struct {
		h    hist
		t    string
		want hist
	}{
		{hist{}, "", hist{}}, {histAt(0, "kept"), "", hist{}}, {histAt(0, "kept"), "kept", atEnd("kept")},
		{hist{}, "one", atEnd("one")},
		{atEnd("one"), "two", atEnd("one", "two")},
		{atEnd("one"), "one", atEnd("one")},
		{atEnd("one"), "one ", atEnd("one", "one ")},
		{atEnd("one"), "One", atEnd("one", "One")},
		// An earlier one may be alike.
		{atEnd("one", "two"), "one", atEnd("one", "two", "one")},
		// Wherever one had gone back to, one has not gone back then.
		{histAt(0, "kept", "one", "two"), "", atEnd("one", "two")},
		{histAt(0, "kept", "one", "two"), "two", atEnd("one", "two")},
		{histAt(0, "kept", "one", "two"), "one", atEnd("one", "two", "one")},
		{histAt(1, "kept", "one", "two"), "x", atEnd("one", "two", "x")},
		{histAt(2, "kept", "one", "two"), "kept", atEnd("one", "two", "kept")},
		// Of more than MaxHist the first one goes.
		{atEnd(full[:11]...), "x", atEnd(append(slices.Clone(full[:11]), "x")...)},
		{atEnd(full...), "x", atEnd(append(slices.Clone(full[1:]), "x")...)},
		{histAt(0, "kept", full...), "x", atEnd(append(slices.Clone(full[1:]), "x")...)},
		{histAt(0, "kept", full...), full[0], atEnd(append(slices.Clone(full[1:]), full[0])...)},
		{histAt(0, "kept", full...), full[11], atEnd(full...)},
		{histAt(5, "kept", full...), "", atEnd(full...)},
	} {
		sameHist(t, x.t, impl.HistPut(x.h, x.t), x.want)
	}
}

func TestPromise7HistPutOfAllKinds(t *testing.T) {
	for _, h := range rightHists() {
		for _, text := range histTexts() {
			got := impl.HistPut(h, text)
			sameHist(t, text, got, histPutByDocument(h, text))
			same(t, "right", impl.HistRight(got), true)
			if text != "" {
				same(t, "what one comes to first", impl.HistUp(got, "").Text, text)
			}
		}
	}
}

func TestPromise7HistPutOfWhatIsNotRight(t *testing.T) {
	for _, h := range rightHists() {
		for _, w := range wrongTexts() {
			sameHist(t, "text not right", impl.HistPut(h, w), h)
		}
	}
	for _, h := range wrongHists() {
		for _, text := range append(wrongTexts(), "", "x", fullText, "kill a") {
			sameHist(t, "Hist not right", impl.HistPut(h, text), h)
		}
	}
	for i := range 256 {
		b := string([]byte{byte(i)})
		for _, h := range []hist{{}, histAt(1, "kept", "a", "b")} {
			want := h
			if 32 <= i && i <= 126 {
				want = histPutByDocument(h, b)
			}
			sameHist(t, "byte "+b, impl.HistPut(h, b), want)
		}
	}
}

func TestPromise7HistPutOfWhatIsTooLongToBeHandedIn(t *testing.T) {
	for _, h := range append(rightHists(), wrongHists()...) {
		for _, text := range tooLongTexts() {
			sameHist(t, "too long to be handed in", impl.HistPut(h, text), hist{})
		}
		sameHist(t, "just not too long", impl.HistPut(h, strings.Repeat("a", impl.MaxBytes)), h)
	}
}

// wayRow is a Hist, what the line is now, and what comes of going one way then.
type wayRow struct {
	h    hist
	now  string
	want histOut
}

func checkWay(t *testing.T, way func(h hist, now string) histOut, rows []wayRow) {
	t.Helper()
	for _, x := range rows {
		sameHistOut(t, x.now, way(x.h, x.now), x.want)
	}
}

func TestPromise7HistUp(t *testing.T) {
	none := histOut{Code: impl.ErrNone}
	checkWay(t, impl.HistUp, []wayRow{
		{hist{}, "", none}, {hist{}, "now", none}, {histAt(0, "kept"), "now", none},
		{histAt(0, "kept", "one"), "now", none}, {histAt(0, "", "one", "two"), "now", none},
		// What is now is kept, where one had not gone back; whatever was kept.
		{atEnd("one"), "now", histOut{Hist: histAt(0, "now", "one"), Text: "one"}},
		{atEnd("one", "two"), "now", histOut{Hist: histAt(1, "now", "one", "two"), Text: "two"}},
		{histAt(2, "kept", "one", "two"), "now", histOut{Hist: histAt(1, "now", "one", "two"), Text: "two"}},
		{histAt(2, "kept", "one", "two"), "", histOut{Hist: histAt(1, "", "one", "two"), Text: "two"}},
		// Where one had gone back, what was kept stays.
		{histAt(1, "kept", "one", "two"), "now", histOut{Hist: histAt(0, "kept", "one", "two"), Text: "one"}},
		{histAt(1, "", "one", "two"), "two", histOut{Hist: histAt(0, "", "one", "two"), Text: "one"}},
		{histAt(2, "kept", "one", "two", "three"), "", histOut{Hist: histAt(1, "kept", "one", "two", "three"), Text: "two"}},
	})
}

func TestPromise7HistDown(t *testing.T) {
	none := histOut{Code: impl.ErrNone}
	checkWay(t, impl.HistDown, []wayRow{
		{hist{}, "", none}, {hist{}, "now", none}, {histAt(0, "kept"), "now", none},
		{atEnd("one"), "now", none}, {histAt(2, "kept", "one", "two"), "now", none},
		{histAt(0, "kept", "one", "two"), "now", histOut{Hist: histAt(1, "kept", "one", "two"), Text: "two"}},
		{histAt(0, "", "one", "two", "three"), "one", histOut{Hist: histAt(1, "", "one", "two", "three"), Text: "two"}},
		// To the end: there is what was kept, which stays kept, be it empty or not.
		{histAt(0, "kept", "one"), "now", histOut{Hist: histAt(1, "kept", "one"), Text: "kept"}},
		{histAt(0, "", "one"), "one", histOut{Hist: histAt(1, "", "one")}},
		{histAt(1, "kept", "one", "two"), "", histOut{Hist: histAt(2, "kept", "one", "two"), Text: "kept"}},
		{histAt(1, "", "one", "two"), "now", histOut{Hist: histAt(2, "", "one", "two")}},
	})
}

func TestPromise7WaysOfAllKinds(t *testing.T) {
	for _, h := range rightHists() {
		for _, now := range histTexts() {
			up, down := impl.HistUp(h, now), impl.HistDown(h, now)
			sameHistOut(t, "back", up, wayByDocument(h, now, -1))
			sameHistOut(t, "on", down, wayByDocument(h, now, 1))
			same(t, "right", impl.HistRight(up.Hist) && impl.HistRight(down.Hist), true)
		}
	}
}

// TestPromise7BackAndOnAgain goes back from the end, as often as can be, and on again, with whatever was typed between.
func TestPromise7BackAndOnAgain(t *testing.T) {
	for _, h := range rightHists() {
		h.At = int64(len(h.Lines))
		for _, now := range histTexts() {
			for steps := 1; steps <= len(h.Lines); steps++ {
				at, text := h, now
				for i := range steps {
					out := impl.HistUp(at, text)
					same(t, "back", out.Text, h.Lines[len(h.Lines)-1-i])
					at, text = out.Hist, []string{out.Text, "typed there", ""}[i%3]
				}
				for i := range steps {
					out := impl.HistDown(at, text)
					same(t, "on", out.Code, impl.OK)
					at, text = out.Hist, []string{out.Text, "", "typed there"}[i%3]
					if i == steps-1 {
						same(t, "the line that was there", out.Text, now)
					}
				}
				sameHist(t, "where one was", at, histAt(h.At, now, h.Lines...))
				same(t, "no further", impl.HistDown(at, now).Code, int64(impl.ErrNone))
			}
		}
	}
}

func TestPromise7WaysThatAreNotRight(t *testing.T) {
	form, size := histOut{Code: impl.ErrForm}, histOut{Code: impl.ErrSize}
	both := func(what string, h hist, now string, want histOut) {
		t.Helper()
		sameHistOut(t, what+", back", impl.HistUp(h, now), want)
		sameHistOut(t, what+", on", impl.HistDown(h, now), want)
	}
	for _, h := range rightHists() {
		for _, w := range wrongTexts() {
			both("text not right", h, w, form)
		}
		for _, now := range tooLongTexts() {
			both("too long to be handed in", h, now, size)
		}
	}
	for _, h := range wrongHists() {
		for _, now := range append(wrongTexts(), "", "now", fullText) {
			both("Hist not right", h, now, form)
		}
		for _, now := range tooLongTexts() {
			both("too long, and Hist not right", h, now, size)
		}
	}
	for i := range 256 {
		b := string([]byte{byte(i)})
		want := []histOut{form, form}
		h := histAt(1, "kept", "one", "two")
		if 32 <= i && i <= 126 {
			want = []histOut{wayByDocument(h, b, -1), wayByDocument(h, b, 1)}
		}
		sameHistOut(t, "byte, back", impl.HistUp(h, b), want[0])
		sameHistOut(t, "byte, on", impl.HistDown(h, b), want[1])
	}
}

// TestPromise7InARow puts, goes back and on, and looks that it is what the document says all the while.
func TestPromise7InARow(t *testing.T) {
	r := rand.New(rand.NewSource(7))
	texts := append(histTexts(), wrongTexts()...)
	for range 60 {
		h := hist{}
		for range 60 {
			want := h
			now := texts[r.Intn(len(texts))]
			switch step := int64(r.Intn(4) - 2); step {
			case -1, 1:
				out := impl.HistDown(h, now)
				if step < 0 {
					out = impl.HistUp(h, now)
				}
				wantOut := histOut{Code: impl.ErrForm}
				if rightText(now) {
					wantOut = wayByDocument(h, now, step)
				}
				sameHistOut(t, now, out, wantOut)
				if out.Code == impl.OK {
					h, want = out.Hist, wantOut.Hist
				}
			default:
				h = impl.HistPut(h, now)
				if rightText(now) {
					want = histPutByDocument(want, now)
				}
			}
			sameHist(t, "in a row", h, want)
			same(t, "right", impl.HistRight(h), true)
		}
	}
}

func TestPromise7HistFind(t *testing.T) {
	h := histAt(2, "kept", "one two", "two three", "three", "two", "x")
	for _, x := range []struct {
		part   string
		before int64
		want   int64
	}{
		{"none of them", 5, -1}, {"kept", 5, -1}, {"ONE", 5, -1}, {"two  three", 5, -1},
		{"one", 5, 0}, {"one", 1, 0}, {"one", 0, -1},
		// At a line's beginning, in it, at its end, and the whole of it.
		{"o", 5, 3}, {"one ", 5, 0}, {"ne t", 5, 0}, {" two", 5, 0}, {"one two", 5, 0}, {"x", 5, 4},
		{"three", 5, 2}, {"three", 3, 2}, {"three", 2, 1}, {"three", 1, -1},
		{"two", 5, 3}, {"two", 4, 3}, {"two", 3, 1}, {"two", 2, 1}, {"two", 1, 0}, {"two", 0, -1}, {"two", -1, -1},
		// The empty part is in each.
		{"", 5, 4}, {"", 4, 3}, {"", 1, 0}, {"", 0, -1}, {"", -1, -1},
		{"two", 6, 3}, {"x", 4, -1}, {"x", 400, 4}, {"x", 1<<32 + 1, 4}, {"x", math.MaxInt64, 4}, {"x", math.MinInt64, -1}, {"x", math.MinInt64 + 1, -1}, {"x", -1 << 32, -1},
		// Longer than a line is.
		{"x ", 5, -1}, {"two three ", 5, -1}, {fullText, 5, -1},
	} {
		same(t, x.part, impl.HistFind(h, x.part, x.before), x.want)
	}
}

// findByDocument goes back from the last line on, for a right Hist and a right part.
func findByDocument(h hist, part string, before int64) int64 {
	for i := len(h.Lines) - 1; i >= 0; i-- {
		for from := 0; from+len(part) <= len(h.Lines[i]); from++ {
			if h.Lines[i][from:from+len(part)] == part && int64(i) < before {
				return int64(i)
			}
		}
	}
	return -1
}

func befores(size int64) []int64 {
	l := append(histPlaces(size), size)
	for at := range size {
		l = append(l, at)
	}
	return l
}

func TestPromise7HistFindOfAllKinds(t *testing.T) {
	parts := append(histTexts(), "b", "c", "bc", "kill", "l a", "like", "a", "al", fullText[:30], fullText[1:], " ", "e")
	for _, lines := range lineLists() {
		h := atEnd(lines...)
		for _, part := range parts {
			for _, before := range befores(int64(len(lines))) {
				want := findByDocument(h, part, before)
				for at := range len(lines) + 1 {
					same(t, part, impl.HistFind(histAt(int64(at), part, lines...), part, before), want)
				}
			}
		}
	}
}

func TestPromise7HistFindOfWhatIsNotRight(t *testing.T) {
	for _, h := range wrongHists() {
		for _, part := range append(wrongTexts(), "", "a", "kill") {
			for _, before := range befores(2) {
				same(t, "Hist not right", impl.HistFind(h, part, before), -1)
			}
		}
	}
	for _, h := range rightHists() {
		for _, part := range append(wrongTexts(), tooLongTexts()...) {
			same(t, "part not right", impl.HistFind(h, part, impl.MaxHist), -1)
		}
	}
	for _, part := range tooLongTexts() {
		for _, h := range append(wrongHists(), atEnd("a", part)) {
			same(t, "neither right", impl.HistFind(h, part, impl.MaxHist), -1)
		}
	}
}

// textBytes is PutText, told by the library.
func textBytes(text string) string {
	return string(binary.AppendVarint(nil, int64(len(text)))) + text
}

// sealedBytes is PutText of Seal, told by the library.
func sealedBytes(text string) string {
	return textBytes(string(binary.LittleEndian.AppendUint32([]byte(text), crc32.ChecksumIEEE([]byte(text)))))
}

func savedBytes(lines ...string) string {
	all := ""
	for _, x := range lines {
		all += sealedBytes(x)
	}
	return all
}

// loadByDocument reads for itself what stands in the bytes.
func loadByDocument(bytes string) hist {
	if len(bytes) > impl.MaxBytes {
		return hist{}
	}
	lines := []string{}
	for at := int64(0); at < int64(len(bytes)); {
		size := numByDocument(bytes, at)
		to := size.At + size.N
		if size.Code != impl.OK || size.N < 0 || size.N > impl.MaxBytes || to > int64(len(bytes)) {
			break
		}
		text := bytes[size.At:to]
		if line := text[:max(0, len(text)-4)]; sealedBytes(line) == textBytes(text) && line != "" && rightText(line) {
			lines = append(lines, line)
		}
		at = to
	}
	return atEnd(lines[max(0, len(lines)-impl.MaxHist):]...)
}

// checkLoad tells what was loaded, too.
func checkLoad(t *testing.T, what string, bytes string) hist {
	t.Helper()
	got := impl.HistLoad(bytes)
	sameHist(t, what, got, loadByDocument(bytes))
	same(t, "right", impl.HistRight(got), true)
	return got
}

func TestPromise7HistSave(t *testing.T) {
	same(t, "without any line", impl.HistSave(hist{}), "")
	same(t, "without any line", impl.HistSave(histAt(0, "kept")), "")
	same(t, "nine digits", impl.HistSave(atEnd("123456789")), "\x1a123456789\x26\x39\xf4\xcb")
	// Of MaxLine bytes what is sealed has a length of two bytes.
	same(t, "of MaxLine bytes", impl.HistSave(atEnd(fullText))[:2], "\x80\x01")
	for _, h := range rightHists() {
		same(t, "saved", impl.HistSave(h), savedBytes(h.Lines...))
	}
	for _, h := range wrongHists() {
		same(t, "not right", impl.HistSave(h), "")
	}
}

func TestPromise7WhatWasSavedIsLoaded(t *testing.T) {
	for _, h := range rightHists() {
		saved := impl.HistSave(h)
		sameHist(t, "loaded", checkLoad(t, "loaded", saved), atEnd(h.Lines...))
		same(t, "saved again", impl.HistSave(impl.HistLoad(saved)), saved)
	}
}

func TestPromise7HistLoad(t *testing.T) {
	one, two := sealedBytes("one"), sealedBytes("two")
	for _, x := range []struct {
		what, bytes string
		want        []string
	}{
		{"no bytes", "", nil},
		{"two", one + two, []string{"one", "two"}},
		// What is alike was not put in, but it is what stands there.
		{"alike", one + one + two + one, []string{"one", "one", "two", "one"}},
		// What Unseal does not tell OK of, or is no right text, or empty, is left out; what stands behind it is not.
		{"too short for a seal", textBytes("") + one + textBytes("abc") + two, []string{"one", "two"}},
		{"not sealed", textBytes("junk") + one + textBytes("more junk") + two, []string{"one", "two"}},
		{"turned", turned(one, 1, 1) + two + turned(one, 7, 128), []string{"two"}},
		{"sealed twice", textBytes(impl.Seal(impl.Seal("one"))) + two, []string{"two"}},
		{"a line feed", sealedBytes("one\n") + two, []string{"two"}},
		{"31 and 32", sealedBytes("\x1f") + sealedBytes(" ") + sealedBytes("a\x1f") + sealedBytes("a "), []string{" ", "a "}},
		{"126 and 127", sealedBytes("~") + sealedBytes("\x7f") + sealedBytes("~a") + sealedBytes("\x7fa"), []string{"~", "~a"}},
		{"above 127", sealedBytes("\x80") + sealedBytes("a\u00e9") + two, []string{"two"}},
		{"empty", sealedBytes("") + one + sealedBytes(""), []string{"one"}},
		{"MaxLine bytes", sealedBytes(fullText) + sealedBytes(fullText+"x") + two, []string{fullText, "two"}},
		{"many bytes", sealedBytes(strings.Repeat("a", 7000)) + two, []string{"two"}},
		// Behind what GetText does not tell OK of nothing is loaded.
		{"a length below 0", one + "\x01" + two, []string{"one"}},
		{"a length above MaxBytes", one + impl.PutNum(impl.MaxBytes+1) + two, []string{"one"}},
		{"a length of too many bytes", one + "\x8e\x00" + two[1:], []string{"one"}},
		{"no number", one + strings.Repeat("\xff", 10) + two, []string{"one"}},
		{"at first", "\x01" + one + two, nil},
		// Bytes that end within a text, or within a number.
		{"within a text", one + two[:len(two)-1], []string{"one"}},
		{"within the first text", one[:len(one)-1], nil},
		{"behind a number", one + two[:1], []string{"one"}},
		{"within a number", one + "\x80", []string{"one"}},
		{"within the first number", "\x80", nil},
	} {
		sameHist(t, x.what, impl.HistLoad(x.bytes), atEnd(x.want...))
		checkLoad(t, x.what, x.bytes)
	}
}

func TestPromise7HistLoadOfMoreThanMaxHist(t *testing.T) {
	for size := range 4 * impl.MaxHist {
		lines := manyTexts(size)
		sameHist(t, "the last ones", impl.HistLoad(savedBytes(lines...)), atEnd(lines[max(0, size-impl.MaxHist):]...))
		// What is no line does not take the place of one.
		junk := strings.Repeat(textBytes("junk")+sealedBytes("")+textBytes(""), impl.MaxHist)
		sameHist(t, "the last ones", impl.HistLoad(savedBytes(lines...)+junk), atEnd(lines[max(0, size-impl.MaxHist):]...))
	}
	many := strings.Repeat(sealedBytes("a"), impl.MaxBytes/6)
	sameHist(t, "as many as can be", impl.HistLoad(many), atEnd(slices.Repeat([]string{"a"}, impl.MaxHist)...))
}

func TestPromise7HistLoadOfManyBytes(t *testing.T) {
	for _, ahead := range []string{savedBytes("one", "two"), savedBytes(manyFull(impl.MaxHist)...)} {
		lines := impl.HistLoad(ahead).Lines
		for _, behind := range []string{"\x00", "\x01", "a", "\xff"} {
			full := ahead + strings.Repeat(behind, impl.MaxBytes-len(ahead))
			sameHist(t, "MaxBytes bytes", checkLoad(t, "MaxBytes bytes", full), atEnd(lines...))
			sameHist(t, "one more", impl.HistLoad(full+behind), hist{})
			sameHist(t, "many more", impl.HistLoad(full+full), hist{})
		}
		// A line that ends just with the last byte.
		padded := strings.Repeat("\x00", impl.MaxBytes-len(ahead)) + ahead
		sameHist(t, "up to the last byte", impl.HistLoad(padded), atEnd(lines...))
		sameHist(t, "one byte ahead", impl.HistLoad("\x00"+padded), hist{})
	}
	whole := textBytes(strings.Repeat("a", impl.MaxBytes-2))
	sameHist(t, "one text of all bytes", checkLoad(t, "one text of all bytes", whole), hist{})
}

func TestPromise7EachByteOfWhatWasSavedTurned(t *testing.T) {
	for _, lines := range [][]string{{"one"}, {"a", "b"}, {"one", "two", "two", "three"}, {fullText, "x"}} {
		saved := impl.HistSave(atEnd(lines...))
		for at := range len(saved) {
			for by := 1; by < 256; by++ {
				checkLoad(t, "turned", turned(saved, at, byte(by)))
			}
			checkLoad(t, "cut off", saved[:at])
			checkLoad(t, "begun late", saved[at:])
		}
	}
	full := impl.HistSave(atEnd(manyFull(impl.MaxHist)...))
	for at := range len(full) {
		checkLoad(t, "turned", turned(full, at, byte(1<<(at%8))))
		checkLoad(t, "cut off", full[:at])
	}
}

// TestPromise7TurnedLinesAreLeftOut turns bytes of a text, not of its length: just that line is not loaded.
func TestPromise7TurnedLinesAreLeftOut(t *testing.T) {
	lines := manyTexts(impl.MaxHist)
	saved := impl.HistSave(atEnd(lines...))
	size := len(saved) / impl.MaxHist
	for at := range len(saved) {
		if at%size == 0 {
			continue
		}
		rest := slices.Delete(slices.Clone(lines), at/size, at/size+1)
		for by := 1; by < 256; by++ {
			sameHist(t, "left out", impl.HistLoad(turned(saved, at, byte(by))), atEnd(rest...))
		}
	}
}

func TestPromise7WhateverBytesAreLoaded(t *testing.T) {
	pieces := []string{
		"\x00", "\x01", "\x02", "\x08", "\x7f", "\x80", "\xff", "\x80\x01", "\x80\x7d", "a", " ", "\n",
		textBytes("junk"), textBytes("junk!"), sealedBytes(""), sealedBytes("a"), sealedBytes("one two"), sealedBytes("\t"), sealedBytes(fullText), sealedBytes(fullText + "~"),
		sealedBytes("a")[:4], sealedBytes("one")[1:], string(binary.AppendVarint(nil, math.MinInt64)), string(binary.AppendVarint(nil, math.MaxInt64)),
	}
	r := rand.New(rand.NewSource(8))
	for range 4000 {
		bytes := ""
		for range r.Intn(40) {
			bytes += pieces[r.Intn(len(pieces))]
		}
		got := checkLoad(t, bytes, bytes)
		sameHist(t, "saved and loaded", impl.HistLoad(impl.HistSave(got)), got)
	}
	for range 4000 {
		b := make([]byte, r.Intn(60))
		for i := range b {
			b[i] = byte(r.Intn(256))
			if r.Intn(2) == 0 {
				b[i] %= 16
			}
		}
		checkLoad(t, string(b), string(b))
	}
}

func cloneHist(h hist) hist {
	return hist{Lines: withRoom(h.Lines, strings.Clone, "behind"), At: h.At, Kept: strings.Clone(h.Kept)}
}

// checkNewHist tries a call that hands a Hist back, with Lines that have room behind them and with such that have none.
func checkNewHist(t *testing.T, h hist, now string, call func(h hist, now string) histOut) {
	t.Helper()
	for _, room := range []bool{true, false} {
		in, now := cloneHist(h), strings.Clone(now)
		if !room {
			in.Lines = slices.Clip(in.Lines)
		}
		all := slices.Clone(in.Lines[:cap(in.Lines)])
		got := call(in, now)
		handedIn := append(slices.Clone(all), in.Kept, now)
		told := append(slices.Clone(got.Hist.Lines), got.Hist.Kept, got.Text)
		for i, x := range told {
			anyShares(t, x, handedIn...)
			anyShares(t, x, told[i+1:]...)
		}
		want := slices.Clone(got.Hist.Lines)
		spoil(got.Hist.Lines, "turned")
		if !slices.Equal(in.Lines[:cap(in.Lines)], all) {
			t.Errorf("%.80q: handed in %.400v, then %.400v", now, all, in.Lines[:cap(in.Lines)])
		}
		again := call(in, now)
		spoil(in.Lines, "turned")
		sameHistOut(t, "handed back", again, histOut{Hist: hist{Lines: want, At: got.Hist.At, Kept: got.Hist.Kept}, Text: got.Text, Code: got.Code})
	}
}

func TestPromise7NewMemory(t *testing.T) {
	for _, h := range append(rightHists(), wrongHists()...) {
		for _, now := range []string{"", "now", "kill a", fullText, "not right\n"} {
			checkNewHist(t, h, now, impl.HistUp)
			checkNewHist(t, h, now, impl.HistDown)
			checkNewHist(t, h, now, func(h hist, now string) histOut { return histOut{Hist: impl.HistPut(h, now)} })
		}
		in := cloneHist(h)
		saved := impl.HistSave(in)
		loaded := impl.HistLoad(saved)
		anyShares(t, saved, in.Lines...)
		for i, x := range loaded.Lines {
			anyShares(t, x, saved)
			anyShares(t, x, loaded.Lines[i+1:]...)
		}
		impl.HistRight(in)
		impl.HistFind(in, "a", impl.MaxHist)
		sameHist(t, "handed in", in, h)
		same(t, "behind what was handed in", slices.Equal(in.Lines[:cap(in.Lines)][len(h.Lines):], []string{"behind", "behind", "behind", "behind"}), true)
	}
}
