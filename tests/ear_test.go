package tests

import (
	"fmt"
	"math"
	"math/rand"
	"slices"
	"strings"
	"testing"

	"loop.example/g00731/impl"
)

type ear = impl.Ear

type earOut = impl.EarOut

func earAt(text string, at int64, done int64) ear {
	return ear{Line: lineAt(text, at), Done: done}
}

func earCode(code int64) earOut {
	return earOut{Code: code}
}

func earDones() []int64 {
	return []int64{0, 1, 2, 59, 400, 401, impl.MaxTime - 2, impl.MaxTime - 1, impl.MaxTime}
}

func wrongDones() []int64 {
	return []int64{
		-1, -2, -impl.MaxTime, impl.MaxTime + 1, impl.MaxTime + 2, 2 * impl.MaxTime, 1 << 32, 1<<32 + 5, -1<<32 + 5,
		math.MaxInt64, math.MaxInt64 - 1, math.MinInt64, math.MinInt64 + 1, math.MinInt64 + 5,
	}
}

// earLines are right, with one standing at the beginning, in the midst and at the end.
func earLines() []line {
	l := slices.Concat(placesOf(""), placesOf("a"), placesOf("one"), placesOf("one one"), placesOf("  "), placesOf("aaaa"))
	for _, text := range []string{fullText[:59], fullText, printed()[35:], strings.Repeat(" ", 60), "put 3 a", "done "} {
		size := int64(len(text))
		l = append(l, lineAt(text, 0), lineAt(text, 1), lineAt(text, size/2), lineAt(text, size-1), lineAt(text, size))
	}
	return l
}

func rightEars() []ear {
	l := []ear{}
	for _, x := range earLines() {
		l = append(l, ear{Line: x})
	}
	for _, done := range earDones() {
		l = append(l, earAt("", 0, done), earAt("one", 1, done), earAt(fullText, 60, done))
	}
	return l
}

// wrongEars are not right by one part alone, or by both.
func wrongEars() []ear {
	l := []ear{}
	for _, x := range wrongLines() {
		l = append(l, ear{Line: x}, ear{Line: x, Done: impl.MaxTime}, ear{Line: x, Done: -1})
	}
	for _, done := range wrongDones() {
		l = append(l, earAt("", 0, done), earAt("one", 2, done), earAt(fullText, 60, done), earAt("one", 4, done))
	}
	for _, at := range wrongFramePlaces() {
		l = append(l, earAt("one", at, 0), earAt("", at, 1), earAt(fullText, at, impl.MaxTime))
	}
	return l
}

func earRightByDocument(e ear) bool {
	return rightText(e.Line.Text) && e.Line.At >= 0 && e.Line.At <= int64(len(e.Line.Text)) && e.Done >= 0 && e.Done <= 1000000
}

// listenByDocument goes sentence by sentence.
func listenByDocument(e ear, f frame) earOut {
	if !earRightByDocument(e) || !frameRightByDocument(f) {
		return earCode(impl.ErrForm)
	}
	text := e.Line.Text
	above := f.At > int64(len(text))
	switch f.Kind {
	case impl.FrPut:
		if above {
			return earCode(impl.ErrRange)
		}
		if len(text)+len(f.Text) > 60 {
			return earCode(impl.ErrFull)
		}
		return earOut{Ear: earAt(text[:f.At]+f.Text+text[f.At:], f.At+int64(len(f.Text)), e.Done)}
	case impl.FrDrop:
		if above || strings.Index(text[f.At:], f.Text) != 0 {
			return earCode(impl.ErrState)
		}
		return earOut{Ear: earAt(text[:f.At]+text[f.At:][len(f.Text):], f.At, e.Done)}
	case impl.FrMove:
		if above {
			return earCode(impl.ErrRange)
		}
		return earOut{Ear: earAt(text, f.At, e.Done)}
	case impl.FrAll:
		if f.At > int64(len(f.Text)) {
			return earCode(impl.ErrRange)
		}
		return earOut{Ear: earAt(f.Text, f.At, e.Done)}
	case impl.FrDone:
		if f.Text != text {
			return earCode(impl.ErrState)
		}
		if e.Done == 1000000 {
			return earCode(impl.ErrFull)
		}
		return earOut{Ear: earAt("", 0, e.Done+1)}
	}
	return earOut{Ear: e}
}

// listenAllByDocument stops at the first code that is told.
func listenAllByDocument(e ear, l []frame) earOut {
	if !earRightByDocument(e) || len(l) > 400 {
		return earCode(impl.ErrForm)
	}
	for _, f := range l {
		out := listenByDocument(e, f)
		if out.Code != impl.OK {
			return earCode(out.Code)
		}
		e = out.Ear
	}
	return earOut{Ear: e}
}

func TestPromise10EarRight(t *testing.T) {
	for _, e := range rightEars() {
		same(t, fmt.Sprintf("%+v", e), impl.EarRight(e), true)
	}
	for _, e := range wrongEars() {
		same(t, fmt.Sprintf("%.80v", e), impl.EarRight(e), false)
	}
}

func TestPromise10EarRightOfEachPart(t *testing.T) {
	for i := range 256 {
		b := string([]byte{byte(i)})
		for _, text := range []string{b, b + "a", "a" + b, b + fullText[1:], fullText[1:] + b, fullText[:30] + b + fullText[31:]} {
			same(t, text, impl.EarRight(earAt(text, 0, 0)), 32 <= i && i <= 126)
			same(t, text, impl.EarRight(earAt(text, 1, impl.MaxTime)), 32 <= i && i <= 126)
		}
	}
	for size := range 130 {
		text := strings.Repeat("x", size)
		same(t, "size", impl.EarRight(earAt(text, 0, 0)), size <= 60)
		for at := int64(-3); at <= 130; at++ {
			same(t, "place", impl.EarRight(earAt(text, at, 5)), size <= 60 && 0 <= at && at <= int64(size))
		}
	}
	for done := int64(-300); done <= 300; done++ {
		same(t, "done", impl.EarRight(earAt("one", 3, done)), done >= 0)
		same(t, "done", impl.EarRight(earAt("", 0, impl.MaxTime+done)), done <= 0)
	}
	for _, done := range append(earDones(), wrongDones()...) {
		same(t, "done", impl.EarRight(ear{Done: done}), 0 <= done && done <= 1000000)
	}
}

type hearRow struct {
	e    ear
	f    frame
	want earOut
}

func hears(e ear, f frame, want ear) hearRow {
	return hearRow{e, f, earOut{Ear: want}}
}

func refuses(e ear, f frame, code int64) hearRow {
	return hearRow{e, f, earCode(code)}
}

func checkHears(t *testing.T, rows []hearRow) {
	t.Helper()
	for _, x := range rows {
		what := fmt.Sprintf("%.200v hears %.200v", x.e, x.f)
		same(t, what, impl.Listen(x.e, x.f), x.want)
		same(t, what, impl.ListenAll(x.e, []frame{x.f}), x.want)
		same(t, what, listenByDocument(x.e, x.f), x.want)
	}
}

func TestPromise10Put(t *testing.T) {
	one, empty, full := earAt("one", 2, 7), ear{}, earAt(fullText, 60, 0)
	checkHears(t, []hearRow{
		hears(one, putAt(0, "x"), earAt("xone", 1, 7)),
		hears(one, putAt(1, "x"), earAt("oxne", 2, 7)),
		hears(one, putAt(2, " a b"), earAt("on a be", 6, 7)),
		hears(one, putAt(3, "xy"), earAt("onexy", 5, 7)),
		refuses(one, putAt(4, "x"), impl.ErrRange),
		refuses(one, putAt(5, "x"), impl.ErrRange),
		refuses(one, putAt(60, "x"), impl.ErrRange),
		hears(one, putAt(0, fullText[:57]), earAt(fullText[:57]+"one", 57, 7)),
		hears(one, putAt(3, fullText[:57]), earAt("one"+fullText[:57], 60, 7)),
		hears(one, putAt(1, fullText[:57]), earAt("o"+fullText[:57]+"ne", 58, 7)),
		refuses(one, putAt(0, fullText[:58]), impl.ErrFull),
		refuses(one, putAt(3, fullText[:58]), impl.ErrFull),
		refuses(one, putAt(3, fullText), impl.ErrFull),
		// Both faults: the place comes first.
		refuses(one, putAt(4, fullText[:58]), impl.ErrRange),
		refuses(one, putAt(60, fullText), impl.ErrRange),
		hears(empty, putAt(0, "x"), earAt("x", 1, 0)),
		hears(empty, putAt(0, fullText), earAt(fullText, 60, 0)),
		refuses(empty, putAt(1, "x"), impl.ErrRange),
		refuses(empty, putAt(1, fullText), impl.ErrRange),
		refuses(full, putAt(0, "x"), impl.ErrFull),
		refuses(full, putAt(30, " "), impl.ErrFull),
		refuses(full, putAt(60, "x"), impl.ErrFull),
		hears(earAt(fullText[:59], 0, 0), putAt(59, "!"), full),
		hears(earAt(fullText[1:], 9, impl.MaxTime), putAt(0, "o"), earAt(fullText, 1, impl.MaxTime)),
		refuses(earAt(fullText[:59], 0, 0), putAt(60, "!"), impl.ErrRange),
		refuses(earAt(fullText[:59], 0, 0), putAt(59, "!!"), impl.ErrFull),
	})
}

func TestPromise10Drop(t *testing.T) {
	one, full := earAt("one one", 2, 7), earAt(fullText, 3, 0)
	checkHears(t, []hearRow{
		hears(one, dropAt(0, "o"), earAt("ne one", 0, 7)),
		hears(one, dropAt(1, "ne"), earAt("o one", 1, 7)),
		hears(one, dropAt(3, " "), earAt("oneone", 3, 7)),
		hears(one, dropAt(4, "one"), earAt("one ", 4, 7)),
		hears(one, dropAt(0, "one"), earAt(" one", 0, 7)),
		hears(one, dropAt(0, "one one"), earAt("", 0, 7)),
		hears(one, dropAt(6, "e"), earAt("one on", 6, 7)),
		// It stands elsewhere.
		refuses(one, dropAt(1, "o"), impl.ErrState),
		refuses(one, dropAt(0, "ne"), impl.ErrState),
		refuses(one, dropAt(2, "one"), impl.ErrState),
		refuses(one, dropAt(0, "O"), impl.ErrState),
		refuses(one, dropAt(0, "x"), impl.ErrState),
		// It is longer than what is left.
		refuses(one, dropAt(0, "one one "), impl.ErrState),
		refuses(one, dropAt(4, "onex"), impl.ErrState),
		refuses(one, dropAt(6, "e "), impl.ErrState),
		refuses(one, dropAt(5, "neo"), impl.ErrState),
		refuses(one, dropAt(0, fullText), impl.ErrState),
		// At the length, and above it.
		refuses(one, dropAt(7, "e"), impl.ErrState),
		refuses(one, dropAt(7, "o"), impl.ErrState),
		refuses(one, dropAt(8, "o"), impl.ErrState),
		refuses(one, dropAt(60, "o"), impl.ErrState),
		refuses(ear{}, dropAt(0, "o"), impl.ErrState),
		refuses(ear{}, dropAt(1, "o"), impl.ErrState),
		refuses(ear{}, dropAt(60, fullText), impl.ErrState),
		hears(full, dropAt(0, fullText), ear{}),
		hears(full, dropAt(59, "!"), earAt(fullText[:59], 59, 0)),
		hears(full, dropAt(1, fullText[1:]), earAt("o", 1, 0)),
		refuses(full, dropAt(60, "!"), impl.ErrState),
		refuses(full, dropAt(1, fullText[:59]), impl.ErrState),
		refuses(full, dropAt(0, fullText[1:]), impl.ErrState),
		hears(earAt("aaaa", 4, impl.MaxTime), dropAt(1, "aa"), earAt("aa", 1, impl.MaxTime)),
	})
}

func TestPromise10MoveAndAll(t *testing.T) {
	one, full := earAt("one", 2, 7), earAt(fullText, 3, 0)
	checkHears(t, []hearRow{
		hears(one, moveTo(0), earAt("one", 0, 7)),
		hears(one, moveTo(2), one),
		hears(one, moveTo(3), earAt("one", 3, 7)),
		refuses(one, moveTo(4), impl.ErrRange),
		refuses(one, moveTo(60), impl.ErrRange),
		hears(ear{}, moveTo(0), ear{}),
		refuses(ear{}, moveTo(1), impl.ErrRange),
		hears(full, moveTo(60), earAt(fullText, 60, 0)),
		refuses(earAt(fullText[:59], 0, 0), moveTo(60), impl.ErrRange),

		hears(one, allAt(0, "ab"), earAt("ab", 0, 7)),
		hears(one, allAt(1, "ab"), earAt("ab", 1, 7)),
		hears(one, allAt(2, "ab"), earAt("ab", 2, 7)),
		// It is of no account what the line was.
		refuses(one, allAt(3, "ab"), impl.ErrRange),
		refuses(full, allAt(3, "ab"), impl.ErrRange),
		refuses(ear{}, allAt(3, "ab"), impl.ErrRange),
		refuses(ear{}, allAt(60, "ab"), impl.ErrRange),
		hears(ear{}, allAt(2, "ab"), earAt("ab", 2, 0)),
		hears(full, allAt(2, "ab"), earAt("ab", 2, 0)),
		hears(one, allAt(3, "one"), earAt("one", 3, 7)),
		hears(one, allAt(0, ""), earAt("", 0, 7)),
		refuses(one, allAt(1, ""), impl.ErrRange),
		refuses(ear{}, allAt(60, ""), impl.ErrRange),
		hears(one, allAt(60, fullText), earAt(fullText, 60, 7)),
		hears(one, allAt(4, fullText), earAt(fullText, 4, 7)),
		hears(full, allAt(60, fullText), earAt(fullText, 60, 0)),
		refuses(one, allAt(60, fullText[:59]), impl.ErrRange),
		refuses(full, allAt(60, fullText[:59]), impl.ErrRange),
		hears(earAt("one", 3, impl.MaxTime), allAt(1, " "), earAt(" ", 1, impl.MaxTime)),
	})
}

func TestPromise10Done(t *testing.T) {
	checkHears(t, []hearRow{
		hears(earAt("one", 2, 7), doneOf("one"), earAt("", 0, 8)),
		hears(ear{}, doneOf(""), earAt("", 0, 1)),
		hears(earAt(" ", 1, 0), doneOf(" "), earAt("", 0, 1)),
		hears(earAt(fullText, 60, 0), doneOf(fullText), earAt("", 0, 1)),
		refuses(earAt("one", 2, 7), doneOf(""), impl.ErrState),
		refuses(earAt("one", 2, 7), doneOf("on"), impl.ErrState),
		refuses(earAt("one", 2, 7), doneOf("ne"), impl.ErrState),
		refuses(earAt("one", 2, 7), doneOf("one "), impl.ErrState),
		refuses(earAt("one", 2, 7), doneOf("One"), impl.ErrState),
		refuses(earAt("one", 2, 7), doneOf(fullText), impl.ErrState),
		refuses(ear{}, doneOf("one"), impl.ErrState),
		refuses(ear{}, doneOf(" "), impl.ErrState),
		refuses(earAt(fullText, 0, 0), doneOf(fullText[:59]), impl.ErrState),
		hears(earAt("one", 0, impl.MaxTime-1), doneOf("one"), earAt("", 0, impl.MaxTime)),
		refuses(earAt("one", 0, impl.MaxTime), doneOf("one"), impl.ErrFull),
		refuses(earAt("", 0, impl.MaxTime), doneOf(""), impl.ErrFull),
		// Both faults: another text comes first.
		refuses(earAt("one", 0, impl.MaxTime), doneOf("on"), impl.ErrState),
		refuses(earAt("", 0, impl.MaxTime), doneOf("x"), impl.ErrState),
		refuses(earAt("one", 0, impl.MaxTime), doneOf(""), impl.ErrState),
		refuses(earAt("one", 0, impl.MaxTime-1), doneOf("on"), impl.ErrState),
	})
}

func TestPromise10SayAndBell(t *testing.T) {
	for _, e := range rightEars() {
		for _, f := range []frame{bellOf(), sayOf(""), sayOf("one"), sayOf(fullText), sayOf(strings.Repeat("~", 80)), sayOf("put 0 x"), sayOf(e.Line.Text)} {
			checkHears(t, []hearRow{hears(e, f, e)})
		}
	}
}

// otherFaults are right Frames each of which tells another code than OK, or than ErrForm, of an Ear that stands beside it.
func otherFaults() []hearRow {
	return []hearRow{
		refuses(earAt("one", 0, 0), putAt(4, "x"), impl.ErrRange), refuses(earAt(fullText, 0, 0), putAt(4, "x"), impl.ErrFull),
		refuses(earAt("one", 0, 0), dropAt(4, "x"), impl.ErrState), refuses(earAt("one", 0, 0), moveTo(4), impl.ErrRange),
		refuses(earAt("one", 0, 0), allAt(4, "x"), impl.ErrRange), refuses(earAt("one", 0, 0), doneOf("x"), impl.ErrState),
		refuses(earAt("one", 0, impl.MaxTime), doneOf("one"), impl.ErrFull),
	}
}

func TestPromise10WhatIsNotRight(t *testing.T) {
	form := earCode(impl.ErrForm)
	ears := []ear{{}, earAt("one", 1, 7), earAt(fullText, 60, impl.MaxTime), earAt("a", 0, impl.MaxTime)}
	for _, f := range wrongFrames() {
		for _, e := range ears {
			same(t, "wrong frame", impl.Listen(e, f), form)
			same(t, "wrong frame", impl.ListenAll(e, []frame{f}), form)
		}
		same(t, "both wrong", impl.Listen(earAt("one", 4, 0), f), form)
		same(t, "both wrong", impl.ListenAll(ear{Done: -1}, []frame{f}), form)
	}
	for _, e := range wrongEars() {
		for _, f := range append(fewFrames(), doneOf(e.Line.Text), moveTo(0), frame{}, moveTo(-1)) {
			same(t, "wrong ear", impl.Listen(e, f), form)
			same(t, "wrong ear", impl.ListenAll(e, []frame{f}), form)
		}
		same(t, "wrong ear", impl.ListenAll(e, nil), form)
		same(t, "wrong ear", impl.ListenAll(e, []frame{}), form)
	}
}

func TestPromise10NotRightComesAheadOfAll(t *testing.T) {
	form := earCode(impl.ErrForm)
	for _, x := range otherFaults() {
		checkHears(t, []hearRow{x})
		wrong := x.e
		wrong.Line.At = -1
		same(t, "wrong ear", impl.Listen(wrong, x.f), form)
		wrong = x.e
		wrong.Done = impl.MaxTime + 1
		same(t, "wrong ear", impl.Listen(wrong, x.f), form)
		for _, f := range []frame{{Kind: x.f.Kind, At: x.f.At, Text: "\x1f"}, {Kind: x.f.Kind, At: 61, Text: x.f.Text}, {Kind: x.f.Kind, At: -1, Text: x.f.Text}, {Kind: x.f.Kind, At: x.f.At, Text: fullText + "x"}} {
			same(t, "wrong frame", impl.Listen(x.e, f), form)
			same(t, "both wrong", impl.Listen(wrong, f), form)
		}
	}
	// What a Frame's Kind does not name makes it wrong, though the rest could be heard, or could not.
	one := earAt("one", 1, impl.MaxTime)
	for _, f := range []frame{
		{Kind: impl.FrMove, At: 2, Text: "x"}, {Kind: impl.FrMove, At: 4, Text: "x"}, {Kind: impl.FrDone, At: 1, Text: "one"}, {Kind: impl.FrDone, At: 1, Text: "x"},
		{Kind: impl.FrBell, At: 1}, {Kind: impl.FrBell, Text: "x"}, {Kind: impl.FrSay, At: 1, Text: "x"}, putAt(0, ""), putAt(4, ""), dropAt(0, ""), dropAt(4, ""),
	} {
		same(t, "wrong frame", impl.Listen(one, f), form)
	}
}

func checkListen(t *testing.T, e ear, f frame) earOut {
	t.Helper()
	got := impl.Listen(e, f)
	if want := listenByDocument(e, f); got != want {
		t.Errorf("%.200v hears %.200v: got %.200v, want %.200v", e, f, got, want)
	}
	if got.Code == impl.OK && !impl.EarRight(got.Ear) {
		t.Errorf("%.200v hears %.200v: %.200v is not right", e, f, got)
	}
	return got
}

func TestPromise10ARightEarStaysRight(t *testing.T) {
	frames := slices.Concat(fewFrames(), drawnFrames(rand.New(rand.NewSource(21)), 300), wrongFrames()[:60])
	for at := range int64(impl.MaxLine + 2) {
		frames = append(frames, moveTo(at), putAt(at, "a"), putAt(at, " one"), dropAt(at, "a"), dropAt(at, "one"), allAt(at, "one"))
	}
	for _, e := range append(rightEars(), wrongEars()...) {
		for _, f := range append(frames, doneOf(e.Line.Text), putAt(0, e.Line.Text), dropAt(0, e.Line.Text)) {
			checkListen(t, e, f)
		}
	}
	for _, e := range rightEars() {
		for _, f := range drawnFrames(rand.New(rand.NewSource(22)), 1000) {
			checkListen(t, e, f)
		}
	}
}

// eachCut hands on each piece of a text that is not empty, and where it stands.
func eachCut(text string, take func(from int64, piece string)) {
	for from := range len(text) {
		for to := from + 1; to <= len(text); to++ {
			take(int64(from), text[from:to])
		}
	}
}

func TestPromise10EachPieceDropped(t *testing.T) {
	for _, text := range []string{"a", "aaaa", "one one", "  ", fullText[:30], fullText} {
		e := earAt(text, int64(len(text)/2), 3)
		eachCut(text, func(from int64, piece string) {
			for at := range int64(len(text) + 2) {
				checkListen(t, e, dropAt(at, piece))
			}
			checkListen(t, e, doneOf(piece))
		})
	}
}

func TestPromise10EachSizePutIn(t *testing.T) {
	for size := range impl.MaxLine + 1 {
		for _, at := range []int64{0, int64(size / 2), int64(size)} {
			e := earAt(fullText[:size], at, 0)
			for more := range impl.MaxLine + 1 {
				for _, place := range []int64{0, 1, int64(size / 2), int64(size - 1), int64(size), int64(size + 1)} {
					checkListen(t, e, putAt(place, strings.Repeat("x", more)))
				}
			}
			for place := range int64(impl.MaxLine + 2) {
				checkListen(t, e, moveTo(place))
				checkListen(t, earAt("one", 1, 0), allAt(place, e.Line.Text))
			}
		}
	}
}

func TestPromise10PutInAndDropped(t *testing.T) {
	for _, e := range rightEars() {
		for at := range int64(len(e.Line.Text) + 1) {
			for _, text := range []string{"a", " ", "one", "aaaa", fullText[:20], fullText} {
				in := impl.Listen(e, putAt(at, text))
				if len(e.Line.Text)+len(text) > impl.MaxLine {
					same(t, "full", in, earCode(impl.ErrFull))
					continue
				}
				back := earOut{Ear: earAt(e.Line.Text, at, e.Done)}
				same(t, "put in and dropped", impl.Listen(in.Ear, dropAt(at, text)), back)
				same(t, "at once", impl.ListenAll(e, []frame{putAt(at, text), dropAt(at, text)}), back)
				same(t, "and back", impl.ListenAll(e, []frame{putAt(at, text), dropAt(at, text), moveTo(e.Line.At)}), earOut{Ear: e})
			}
		}
	}
}

func TestPromise10DroppedAndPutIn(t *testing.T) {
	for _, text := range []string{"a", "one one", "  ", fullText[:25]} {
		e := earAt(text, 0, 2)
		eachCut(text, func(from int64, piece string) {
			back := earOut{Ear: earAt(text, from+int64(len(piece)), 2)}
			same(t, piece, impl.ListenAll(e, []frame{dropAt(from, piece), putAt(from, piece)}), back)
		})
	}
}

// likelyFrame is one that can mostly be heard.
func likelyFrame(r *rand.Rand, e ear) frame {
	text := e.Line.Text
	at := r.Intn(len(text) + 1)
	end := at + r.Intn(len(text)-at+1)
	switch r.Intn(9) {
	case 0, 1, 2:
		return putAt(int64(at), fullText[at/2:][:1+r.Intn(6)])
	case 3, 4:
		if at < end {
			return dropAt(int64(at), text[at:end])
		}
		return sayOf(text)
	case 5:
		return moveTo(int64(at))
	case 6:
		return bellOf()
	case 7:
		return allAt(int64(at), text[:at]+"x"[:r.Intn(2)])
	}
	return doneOf(text)
}

// likelyFrames are such that all of them can be heard, one after the other.
func likelyFrames(r *rand.Rand, e ear, size int) []frame {
	l := []frame{}
	for len(l) < size {
		f := likelyFrame(r, e)
		if out := listenByDocument(e, f); out.Code == impl.OK {
			l, e = append(l, f), out.Ear
		}
	}
	return l
}

func checkListenAll(t *testing.T, what string, e ear, l []frame) earOut {
	t.Helper()
	got := impl.ListenAll(e, l)
	if want := listenAllByDocument(e, l); got != want {
		t.Errorf("%s: %.200v hears %d frames %.300v: got %.200v, want %.200v", what, e, len(l), l, got, want)
	}
	if got.Code == impl.OK {
		same(t, what, impl.EarRight(got.Ear), true)
	}
	return got
}

func TestPromise10ListenAllRows(t *testing.T) {
	one := earAt("one", 2, 7)
	for _, x := range []struct {
		e    ear
		l    []frame
		want earOut
	}{
		{one, nil, earOut{Ear: one}},
		{one, []frame{}, earOut{Ear: one}},
		{one, []frame{bellOf(), sayOf("x"), bellOf()}, earOut{Ear: one}},
		{one, []frame{bellOf(), moveTo(0)}, earOut{Ear: earAt("one", 0, 7)}},
		{one, []frame{dropAt(0, "o"), dropAt(0, "n"), dropAt(0, "e"), doneOf(""), doneOf("")}, earOut{Ear: earAt("", 0, 9)}},
		{one, []frame{putAt(3, " two"), doneOf("one two"), putAt(0, "x")}, earOut{Ear: earAt("x", 1, 8)}},
		{one, []frame{allAt(1, "ab"), moveTo(2), dropAt(0, "a"), putAt(1, "c")}, earOut{Ear: earAt("bc", 2, 7)}},
		// Of two codes the first one, wherever it stands.
		{one, []frame{moveTo(4), dropAt(0, "x")}, earCode(impl.ErrRange)},
		{one, []frame{dropAt(0, "x"), moveTo(4)}, earCode(impl.ErrState)},
		{one, []frame{bellOf(), putAt(0, fullText), dropAt(0, "x"), moveTo(4)}, earCode(impl.ErrFull)},
		{one, []frame{dropAt(0, "x"), {}}, earCode(impl.ErrState)},
		{one, []frame{moveTo(4), putAt(0, "")}, earCode(impl.ErrRange)},
		{one, []frame{{}, moveTo(4)}, earCode(impl.ErrForm)},
		{one, []frame{moveTo(3), putAt(0, ""), moveTo(4)}, earCode(impl.ErrForm)},
		{one, []frame{doneOf("one"), doneOf("one")}, earCode(impl.ErrState)},
		{one, []frame{dropAt(0, "one"), moveTo(1)}, earCode(impl.ErrRange)},
		{earAt("a", 0, impl.MaxTime-1), []frame{doneOf("a"), moveTo(0), doneOf("")}, earCode(impl.ErrFull)},
		{earAt("a", 0, impl.MaxTime-1), []frame{doneOf("a"), moveTo(0), doneOf("a")}, earCode(impl.ErrState)},
		{earAt("a", 0, impl.MaxTime-1), []frame{doneOf("a"), moveTo(0)}, earOut{Ear: earAt("", 0, impl.MaxTime)}},
	} {
		same(t, fmt.Sprintf("%v", x.l), impl.ListenAll(x.e, x.l), x.want)
		checkListenAll(t, "row", x.e, x.l)
	}
}

func TestPromise10ListenAllIsEachListen(t *testing.T) {
	r := rand.New(rand.NewSource(23))
	for round := range 300 {
		e := rightEars()[r.Intn(len(rightEars()))]
		if e.Done > impl.MaxTime-400 {
			e.Done -= 400
		}
		l := likelyFrames(r, e, r.Intn(60))
		out := earOut{Ear: e}
		for i, f := range l {
			out = impl.Listen(out.Ear, f)
			same(t, "ahead", impl.ListenAll(e, l[:i+1]), out)
			same(t, "no code", out.Code, impl.OK)
		}
		same(t, fmt.Sprint("all ", round), checkListenAll(t, "drawn", e, l), out)
	}
}

func TestPromise10AFrameThatTellsACode(t *testing.T) {
	r := rand.New(rand.NewSource(24))
	faults := []frame{{}, putAt(0, ""), moveTo(60), moveTo(61), dropAt(0, "\x1f"), dropAt(0, "#"), putAt(0, fullText), allAt(3, "ab"), doneOf("#"), {Kind: impl.FrBell, At: 1}}
	for range 40 {
		e := earAt("one two", 2, 7)
		l := likelyFrames(r, e, 1+r.Intn(12))
		for at := range len(l) + 1 {
			for _, fault := range faults {
				checkListenAll(t, "one fault", e, slices.Insert(slices.Clone(l), at, fault))
				checkListenAll(t, "two faults", e, append(slices.Insert(slices.Clone(l), at, fault), faults[r.Intn(len(faults))]))
			}
		}
	}
}

// checkParts hears a list in two parts, at each place where it can be parted.
func checkParts(t *testing.T, e ear, l []frame) {
	t.Helper()
	whole := checkListenAll(t, "whole", e, l)
	for at := range len(l) + 1 {
		first := impl.ListenAll(e, l[:at])
		if first.Code != impl.OK {
			same(t, "the first part", first, whole)
			continue
		}
		same(t, fmt.Sprintf("parted at %d: %.200v", at, l), impl.ListenAll(first.Ear, l[at:]), whole)
	}
}

func TestPromise10HeardInTwoParts(t *testing.T) {
	r := rand.New(rand.NewSource(25))
	for _, e := range []ear{{}, earAt("one", 1, 3), earAt(fullText, 60, 0), earAt("a", 0, impl.MaxTime-2)} {
		checkParts(t, e, nil)
		checkParts(t, e, fewFrames())
		for range 40 {
			l := drawnFrames(r, r.Intn(8))
			checkParts(t, e, l)
			if e.Done == 0 {
				l = likelyFrames(r, e, r.Intn(30))
				checkParts(t, e, l)
				checkParts(t, e, append(l, drawnFrames(r, 3)...))
			}
		}
	}
	many := likelyFrames(r, ear{}, impl.MaxList)
	checkParts(t, ear{}, many)
	checkParts(t, ear{}, append(many[:200:200], moveTo(60), moveTo(61), frame{}))
	checkParts(t, earAt("", 0, impl.MaxTime-3), slices.Repeat([]frame{doneOf("")}, 6))
}

func TestPromise10MaxTimeIsComeTo(t *testing.T) {
	done := slices.Repeat([]frame{doneOf("")}, impl.MaxList)
	same(t, "all", impl.ListenAll(earAt("", 0, impl.MaxTime-400), done), earOut{Ear: earAt("", 0, impl.MaxTime)})
	same(t, "one too many", impl.ListenAll(earAt("", 0, impl.MaxTime-399), done), earCode(impl.ErrFull))
	same(t, "the last one a bell", impl.ListenAll(earAt("", 0, impl.MaxTime-399), append(done[:399:399], bellOf())), earOut{Ear: earAt("", 0, impl.MaxTime)})
	same(t, "from none", impl.ListenAll(ear{}, done), earOut{Ear: earAt("", 0, 400)})
}

func TestPromise10ListenAllSizes(t *testing.T) {
	one, form := earAt("one", 2, 7), earCode(impl.ErrForm)
	for _, size := range []int{1, impl.MaxList - 1, impl.MaxList, impl.MaxList + 1, impl.MaxList + 2, 512, 2 * impl.MaxList, impl.MaxBytes, 1 << 16} {
		want := earOut{Ear: one}
		if size > impl.MaxList {
			want = form
		}
		same(t, "bells", impl.ListenAll(one, slices.Repeat([]frame{bellOf()}, size)), want)
		// More than can be heard come ahead of what any of them tells.
		for _, x := range []struct {
			f    frame
			code int64
		}{{moveTo(4), impl.ErrRange}, {putAt(0, fullText), impl.ErrFull}, {dropAt(0, "x"), impl.ErrState}, {doneOf("x"), impl.ErrState}, {frame{}, impl.ErrForm}} {
			if size > impl.MaxList {
				x.code = impl.ErrForm
			}
			l := slices.Repeat([]frame{bellOf()}, size)
			for _, at := range []int{0, size / 2, size - 1} {
				with := slices.Clone(l)
				with[at] = x.f
				same(t, "one tells a code", impl.ListenAll(one, with), earCode(x.code))
			}
			same(t, "each tells a code", impl.ListenAll(one, slices.Repeat([]frame{x.f}, size)), earCode(x.code))
		}
		for _, e := range []ear{{Done: -1}, earAt("one", 4, 0), earAt(fullText+"x", 0, 0), earAt("\n", 0, 0), earAt("", 0, impl.MaxTime+1)} {
			same(t, "wrong ear", impl.ListenAll(e, slices.Repeat([]frame{bellOf()}, size)), form)
			same(t, "wrong ear", impl.ListenAll(e, make([]frame, size)), form)
		}
	}
}

func cloneEar(e ear) ear {
	return ear{Line: cloneLine(e.Line), Done: e.Done}
}

// hearable are Frames that an Ear can mostly hear.
func hearable(e ear) []frame {
	text := e.Line.Text
	l := []frame{bellOf(), sayOf("said"), sayOf(text), moveTo(0), moveTo(int64(len(text))), allAt(2, "all"), allAt(0, text), doneOf(text), putAt(0, "put"), putAt(int64(len(text)), "p"), putAt(0, fullText)}
	if text != "" {
		l = append(l, dropAt(0, text), dropAt(0, text[:1]), dropAt(int64(len(text)-1), text[len(text)-1:]), putAt(0, text))
	}
	return l
}

func TestPromise10NewMemory(t *testing.T) {
	for _, e := range append(rightEars(), wrongEars()...) {
		for _, f := range append(hearable(e), frame{Kind: impl.FrAll, At: 9, Text: "x"}) {
			own, said := cloneEar(e), cloneFrame(f)
			got := impl.Listen(own, said)
			anyShares(t, got.Ear.Line.Text, own.Line.Text, said.Text)
			same(t, "ear handed in", own, e)
			same(t, "frame handed in", said, f)
			again := impl.ListenAll(own, []frame{said})
			same(t, "again", again, got)
			anyShares(t, again.Ear.Line.Text, own.Line.Text, said.Text, got.Ear.Line.Text)
		}
		own := cloneEar(e)
		for _, l := range [][]frame{nil, {}} {
			anyShares(t, impl.ListenAll(own, l).Ear.Line.Text, own.Line.Text)
		}
		impl.EarRight(own)
		same(t, "ear handed in", own, e)
	}
}

func TestPromise10NothingIsChanged(t *testing.T) {
	r := rand.New(rand.NewSource(26))
	for _, e := range []ear{{}, earAt("one", 1, 3), earAt(fullText, 60, 0), earAt("one", 9, 0)} {
		lists := [][]frame{nil, {bellOf()}, fewFrames(), drawnFrames(r, 20), wrongFrames()[:30]}
		if impl.EarRight(e) {
			lists = append(lists, likelyFrames(r, e, 50), slices.Concat(likelyFrames(r, e, 20), fewFrames()))
		}
		for _, l := range lists {
			in := withRoom(l, cloneFrame, sayOf("behind"))
			all := slices.Clone(in[:cap(in)])
			first := impl.ListenAll(e, in)
			same(t, "frames handed in", slices.Equal(in[:cap(in)], all), true)
			for _, f := range in {
				anyShares(t, first.Ear.Line.Text, f.Text)
			}
			same(t, "heard again", impl.ListenAll(e, in), first)
			spoil(in, bellOf())
			same(t, "handed back", first, listenAllByDocument(e, l))
		}
	}
}
