package tests

import (
	"fmt"
	"math"
	"math/rand"
	"regexp"
	"slices"
	"strconv"
	"strings"
	"testing"

	"loop.example/g00731/impl"
)

type frame = impl.Frame

type frameOut = impl.FrameOut

type streamOut = impl.StreamOut

func putAt(at int64, text string) frame  { return frame{Kind: impl.FrPut, At: at, Text: text} }
func dropAt(at int64, text string) frame { return frame{Kind: impl.FrDrop, At: at, Text: text} }
func moveTo(at int64) frame              { return frame{Kind: impl.FrMove, At: at} }
func allAt(at int64, text string) frame  { return frame{Kind: impl.FrAll, At: at, Text: text} }
func sayOf(text string) frame            { return frame{Kind: impl.FrSay, Text: text} }
func bellOf() frame                      { return frame{Kind: impl.FrBell} }
func doneOf(text string) frame           { return frame{Kind: impl.FrDone, Text: text} }

func sameStream(t *testing.T, what string, got streamOut, want streamOut) {
	t.Helper()
	if got.Code != want.Code || !slices.Equal(got.Frames, want.Frames) {
		t.Errorf("%.80q: got %d frames, want %d: %.400v, %.400v", what, len(got.Frames), len(want.Frames), got, want)
	}
}

// frameSyntax is all that is told of what is no frame's text.
func frameSyntax() frameOut {
	return frameOut{Code: impl.ErrSyntax}
}

func streamSyntax() streamOut {
	return streamOut{Code: impl.ErrSyntax}
}

func allFrameKinds() []int64 {
	return []int64{impl.FrPut, impl.FrDrop, impl.FrMove, impl.FrAll, impl.FrSay, impl.FrBell, impl.FrDone}
}

// wrongFrameKinds are none, some of them such that their lowest bits are one.
func wrongFrameKinds() []int64 {
	return []int64{
		0, impl.FrDone + 1, -1, -2, -impl.FrDone, 9, 255, 256, 256 + impl.FrPut, 256 + impl.FrBell, 1 << 32, 1<<32 + impl.FrPut, 1<<32 + impl.FrBell,
		-1<<32 + impl.FrSay, math.MaxInt64, math.MaxInt64 - 1, math.MinInt64, math.MinInt64 + 1, math.MinInt64 + impl.FrBell,
	}
}

func framePlaces() []int64 {
	return []int64{0, 1, 2, 9, 10, 11, 30, 59, impl.MaxLine}
}

func wrongFramePlaces() []int64 {
	return []int64{
		-1, -2, -10, -impl.MaxLine, impl.MaxLine + 1, impl.MaxLine + 2, 99, 100, impl.MaxSay, 255, 256, 256 + 5, 1 << 32, 1<<32 + 5, -1<<32 + 5,
		math.MaxInt64, math.MaxInt64 - 1, math.MinInt64, math.MinInt64 + 1, math.MinInt64 + 5,
	}
}

// frameLines are right texts, not empty: with blanks all over, and such as are a frame's text, or a piece of one.
func frameLines() []string {
	l := []string{
		"a", " ", "  ", "   ", " a", "a ", "  a  b  ", "~", " ~", "~ ", "0", "00", "5", "60", "61", "-1", "+5", " 5", "5 ", "3 x", "12345678901234567890",
		"put", "drop", "move", "all", "say", "bell", "done", "put ", " put", "say ", "bell ", "Bell", "put 3 a", "drop 0 x", "move 5", "all 2 ab", "say a", "done x", "done ",
		"put 3  a b", "\\n", "bell\\nbell", "\\x0a", "%s%d", "\"", "'", "\\", "#",
		fullText[:1], fullText[:59], fullText, fullText[1:] + " ", " " + fullText[1:], strings.Repeat(" ", 59), strings.Repeat(" ", 60), strings.Repeat("9", 60),
		printed()[:60], printed()[35:], "put 60 " + fullText[:53],
	}
	return append(l, strings.Split(printed(), "")...)
}

// frameSays are right for FrSay alone: they are too long for a line.
func frameSays() []string {
	say := fullText + printed()
	return []string{say[:61], say[:79], say[:80], say[20:100], strings.Repeat(" ", 61), strings.Repeat(" ", 80), strings.Repeat("~", 80), " " + say[:78] + " ", "say " + say[:76]}
}

// wrongFrameTexts are right for no Frame.
func wrongFrameTexts() []string {
	l := []string{
		"\x1f", "\x7f", "\n", "\r", "\x00", "\t", "\x80", "\xff", " \n", "a\n", "\na", "a\nbell", "a\x1f", "\x7fa", "a\x7fb", "\xa0", "\u00e9", "a\u00e9b", "\u20ac", "\ufffd", "\U0001f600", "a\xc3",
		strings.Repeat("a", 81), strings.Repeat(" ", 81), strings.Repeat("a", 82), strings.Repeat("a", 256+5), strings.Repeat("a", impl.MaxBytes), strings.Repeat("a", impl.MaxBytes+1),
		fullText[1:] + "\n", "\n" + fullText[1:], fullText[:30] + "\x7f" + fullText[31:], strings.Repeat("a", 79) + "\n", strings.Repeat("a", 79) + "\x7f", "\x1f" + strings.Repeat("a", 79),
	}
	for _, i := range []int{0, 1, 26, 27, 28, 29, 30, 128, 159, 160, 192, 224, 254} {
		l = append(l, string([]byte{byte(i)}), "a"+string([]byte{byte(i)}))
	}
	return l
}

// frameRightByDocument goes row by row.
func frameRightByDocument(f frame) bool {
	place, line := 0 <= f.At && f.At <= 60, rightText(f.Text)
	switch f.Kind {
	case impl.FrPut, impl.FrDrop:
		return place && line && len(f.Text) > 0
	case impl.FrMove:
		return place && len(f.Text) == 0
	case impl.FrAll:
		return place && line
	case impl.FrSay:
		return f.At == 0 && len(f.Text) <= 80 && printedBytes(f.Text)
	case impl.FrBell:
		return f.At == 0 && len(f.Text) == 0
	case impl.FrDone:
		return f.At == 0 && line
	}
	return false
}

// frameTextByDocument goes row by row for a right Frame.
func frameTextByDocument(f frame) string {
	switch f.Kind {
	case impl.FrPut:
		return fmt.Sprintf("put %d %s", f.At, f.Text)
	case impl.FrDrop:
		return fmt.Sprintf("drop %d %s", f.At, f.Text)
	case impl.FrMove:
		return fmt.Sprintf("move %d", f.At)
	case impl.FrAll:
		return fmt.Sprintf("all %d %s", f.At, f.Text)
	case impl.FrSay:
		return "say " + f.Text
	case impl.FrBell:
		return "bell"
	}
	return "done " + f.Text
}

const placeForm = `(?P<at>[0-9]|[1-5][0-9]|60)`

// frameForms are the table's rows, Kind by Kind.
var frameForms = []*regexp.Regexp{
	regexp.MustCompile(`^put ` + placeForm + ` (?P<text>[ -~]{1,60})$`),
	regexp.MustCompile(`^drop ` + placeForm + ` (?P<text>[ -~]{1,60})$`),
	regexp.MustCompile(`^move ` + placeForm + `$`),
	regexp.MustCompile(`^all ` + placeForm + ` (?P<text>[ -~]{0,60})$`),
	regexp.MustCompile(`^say (?P<text>[ -~]{0,80})$`),
	regexp.MustCompile(`^bell$`),
	regexp.MustCompile(`^done (?P<text>[ -~]{0,60})$`),
}

// readByDocument is for a text that can be handed in.
func readByDocument(text string) frameOut {
	for i, form := range frameForms {
		found := form.FindStringSubmatch(text)
		if found == nil {
			continue
		}
		f := frame{Kind: int64(i + 1)}
		if at := form.SubexpIndex("at"); at > 0 {
			f.At, _ = strconv.ParseInt(found[at], 10, 64)
		}
		if part := form.SubexpIndex("text"); part > 0 {
			f.Text = found[part]
		}
		return frameOut{Frame: f}
	}
	return frameSyntax()
}

// streamByDocument is for a text that can be handed in.
func streamByDocument(text string) streamOut {
	lines := strings.SplitAfter(text, "\n")
	// Behind the last line feed nothing is left.
	if lines[len(lines)-1] == "" {
		lines = lines[:len(lines)-1]
	}
	out := streamOut{}
	for _, line := range lines {
		read := readByDocument(strings.TrimSuffix(line, "\n"))
		if read.Code != impl.OK || line[len(line)-1] != '\n' || len(lines) > impl.MaxList {
			return streamSyntax()
		}
		out.Frames = append(out.Frames, read.Frame)
	}
	return out
}

// rightFrames are of each Kind, with all that it may name.
func rightFrames() []frame {
	l := []frame{bellOf(), sayOf(""), doneOf("")}
	for at := range int64(impl.MaxLine + 1) {
		l = append(l, moveTo(at), allAt(at, ""), putAt(at, "a"), dropAt(at, "a"), allAt(at, "a"))
	}
	for _, text := range frameLines() {
		l = append(l, sayOf(text), doneOf(text))
		for _, at := range framePlaces() {
			l = append(l, putAt(at, text), dropAt(at, text), allAt(at, text))
		}
	}
	for _, text := range frameSays() {
		l = append(l, sayOf(text))
	}
	return l
}

// wrongFrames are of a Kind that there is not, or have something that is not right, or that their Kind does not name.
func wrongFrames() []frame {
	l := []frame{{}, putAt(0, ""), dropAt(0, ""), putAt(5, ""), dropAt(60, "")}
	for _, kind := range wrongFrameKinds() {
		for _, at := range []int64{0, 3, -1, 61} {
			for _, text := range []string{"", "a", " ", fullText, "\n"} {
				l = append(l, frame{Kind: kind, At: at, Text: text})
			}
		}
	}
	for _, at := range wrongFramePlaces() {
		for _, text := range []string{"", "a", fullText} {
			for _, kind := range allFrameKinds() {
				l = append(l, frame{Kind: kind, At: at, Text: text})
			}
		}
	}
	for _, text := range wrongFrameTexts() {
		for _, kind := range allFrameKinds() {
			l = append(l, frame{Kind: kind, Text: text}, frame{Kind: kind, At: 7, Text: text})
		}
	}
	for _, text := range frameSays() {
		l = append(l, putAt(0, text), dropAt(0, text), allAt(0, text), doneOf(text), putAt(3, text), allAt(60, text))
	}
	// What the Kind does not name.
	for _, at := range framePlaces()[1:] {
		l = append(l, frame{Kind: impl.FrBell, At: at})
		for _, text := range []string{"", "a", fullText} {
			l = append(l, frame{Kind: impl.FrSay, At: at, Text: text}, frame{Kind: impl.FrDone, At: at, Text: text}, frame{Kind: impl.FrBell, At: at, Text: "a"})
		}
	}
	for _, text := range append(frameLines(), frameSays()...) {
		l = append(l, frame{Kind: impl.FrBell, Text: text}, frame{Kind: impl.FrMove, Text: text}, frame{Kind: impl.FrMove, At: 60, Text: text})
	}
	return l
}

// everyFrame has each Kind, place and text beside each other one, right or not.
func everyFrame() []frame {
	l := []frame{}
	for _, kind := range append(wrongFrameKinds(), allFrameKinds()...) {
		for _, at := range append(wrongFramePlaces(), framePlaces()...) {
			for _, text := range slices.Concat(wrongFrameTexts(), frameLines(), frameSays(), []string{""}) {
				l = append(l, frame{Kind: kind, At: at, Text: text})
			}
		}
	}
	return l
}

// drawnFrames are right, with texts of all lengths.
func drawnFrames(r *rand.Rand, size int) []frame {
	all := printed()
	l := []frame{}
	for len(l) < size {
		b := make([]byte, r.Intn(impl.MaxSay+1))
		for i := range b {
			b[i] = all[r.Intn(len(all))]
			if r.Intn(4) == 0 {
				b[i] = ' '
			}
		}
		f := frame{Kind: int64(r.Intn(7) + 1), At: int64(r.Intn(61)), Text: string(b)}
		switch f.Kind {
		case impl.FrMove:
			f.Text = ""
		case impl.FrBell:
			f = bellOf()
		case impl.FrSay, impl.FrDone:
			f.At = 0
		}
		if frameRightByDocument(f) {
			l = append(l, f)
		}
	}
	return l
}

func TestPromise9FrameRight(t *testing.T) {
	for _, f := range rightFrames() {
		same(t, fmt.Sprintf("%+v", f), impl.FrameRight(f), true)
	}
	for _, f := range wrongFrames() {
		same(t, fmt.Sprintf("%.80v", f), impl.FrameRight(f), false)
	}
	for _, f := range everyFrame() {
		if impl.FrameRight(f) != frameRightByDocument(f) {
			t.Errorf("%.200v: got %v", f, impl.FrameRight(f))
		}
	}
}

func TestPromise9FrameRightOfEachByte(t *testing.T) {
	for i := range 256 {
		b := string([]byte{byte(i)})
		want := 32 <= i && i <= 126
		for _, text := range []string{b, b + "a", "a" + b, "a" + b + "a", b + fullText[1:], fullText[1:] + b, fullText[:30] + b + fullText[31:]} {
			for _, kind := range allFrameKinds() {
				f := frame{Kind: kind, Text: text}
				same(t, text, impl.FrameRight(f), want && kind != impl.FrMove && kind != impl.FrBell)
			}
		}
		for _, text := range []string{b + strings.Repeat("a", 79), strings.Repeat("a", 79) + b, strings.Repeat("a", 60) + b, strings.Repeat("a", 40) + b + strings.Repeat("a", 39)} {
			same(t, text, impl.FrameRight(sayOf(text)), want)
			same(t, text, impl.FrameRight(doneOf(text)), false)
		}
	}
}

func TestPromise9FrameRightOfEachSize(t *testing.T) {
	sizes := []int{100, 128, 255, 256, 256 + 60, impl.MaxBytes - 1, impl.MaxBytes, impl.MaxBytes + 1, 2 * impl.MaxBytes}
	for size := range 90 {
		sizes = append(sizes, size)
	}
	for _, size := range sizes {
		text := strings.Repeat("x", size)
		for _, at := range []int64{0, 1, 60} {
			same(t, "put", impl.FrameRight(putAt(at, text)), 1 <= size && size <= 60)
			same(t, "drop", impl.FrameRight(dropAt(at, text)), 1 <= size && size <= 60)
			same(t, "all", impl.FrameRight(allAt(at, text)), size <= 60)
			same(t, "move", impl.FrameRight(frame{Kind: impl.FrMove, At: at, Text: text}), size == 0)
			same(t, "say", impl.FrameRight(frame{Kind: impl.FrSay, At: at, Text: text}), size <= 80 && at == 0)
			same(t, "bell", impl.FrameRight(frame{Kind: impl.FrBell, At: at, Text: text}), size == 0 && at == 0)
			same(t, "done", impl.FrameRight(frame{Kind: impl.FrDone, At: at, Text: text}), size <= 60 && at == 0)
		}
	}
}

func TestPromise9FrameRightOfEachKindAndPlace(t *testing.T) {
	for kind := int64(-300); kind <= 300; kind++ {
		same(t, "bare", impl.FrameRight(frame{Kind: kind}), 3 <= kind && kind <= 7)
		same(t, "with a text", impl.FrameRight(frame{Kind: kind, Text: "a"}), kind == 1 || kind == 2 || kind == 4 || kind == 5 || kind == 7)
		same(t, "with a place", impl.FrameRight(frame{Kind: kind, At: 5}), kind == 3 || kind == 4)
		same(t, "with both", impl.FrameRight(frame{Kind: kind, At: 5, Text: "a"}), kind == 1 || kind == 2 || kind == 4)
	}
	for at := int64(-300); at <= 300; at++ {
		want := 0 <= at && at <= 60
		same(t, "put", impl.FrameRight(putAt(at, "ab")), want)
		same(t, "drop", impl.FrameRight(dropAt(at, fullText)), want)
		same(t, "move", impl.FrameRight(moveTo(at)), want)
		// The place may be behind the text's end.
		same(t, "all", impl.FrameRight(allAt(at, "ab")), want)
		same(t, "all", impl.FrameRight(allAt(at, "")), want)
		same(t, "say", impl.FrameRight(frame{Kind: impl.FrSay, At: at, Text: "ab"}), at == 0)
		same(t, "bell", impl.FrameRight(frame{Kind: impl.FrBell, At: at}), at == 0)
		same(t, "done", impl.FrameRight(frame{Kind: impl.FrDone, At: at, Text: "ab"}), at == 0)
	}
}

// frameRows are right Frames and their texts, written out by hand.
func frameRows() []struct {
	f    frame
	text string
} {
	return []struct {
		f    frame
		text string
	}{
		{putAt(0, "a"), "put 0 a"}, {putAt(3, " a b"), "put 3  a b"}, {putAt(60, " "), "put 60  "}, {putAt(10, "  "), "put 10   "}, {putAt(9, "9"), "put 9 9"},
		{putAt(0, "put 0 a"), "put 0 put 0 a"}, {putAt(5, "bell"), "put 5 bell"}, {putAt(0, "\\n"), "put 0 \\n"}, {putAt(1, fullText), "put 1 " + fullText},
		{dropAt(0, "a"), "drop 0 a"}, {dropAt(59, "a "), "drop 59 a "}, {dropAt(60, fullText), "drop 60 " + fullText}, {dropAt(7, "drop"), "drop 7 drop"},
		{moveTo(0), "move 0"}, {moveTo(5), "move 5"}, {moveTo(10), "move 10"}, {moveTo(60), "move 60"},
		{allAt(0, ""), "all 0 "}, {allAt(60, ""), "all 60 "}, {allAt(0, " "), "all 0  "}, {allAt(2, "ab"), "all 2 ab"}, {allAt(60, "ab"), "all 60 ab"}, {allAt(12, fullText), "all 12 " + fullText},
		{allAt(1, "1"), "all 1 1"}, {allAt(1, "1 1"), "all 1 1 1"},
		{sayOf(""), "say "}, {sayOf(" "), "say  "}, {sayOf("a"), "say a"}, {sayOf("say "), "say say "}, {sayOf("0"), "say 0"}, {sayOf("00"), "say 00"}, {sayOf(strings.Repeat("~", 80)), "say " + strings.Repeat("~", 80)},
		{bellOf(), "bell"},
		{doneOf(""), "done "}, {doneOf(" "), "done  "}, {doneOf("done"), "done done"}, {doneOf("07 a"), "done 07 a"}, {doneOf(fullText), "done " + fullText},
	}
}

func TestPromise9FrameRows(t *testing.T) {
	for _, x := range frameRows() {
		same(t, x.text, impl.FrameText(x.f), x.text)
		same(t, x.text, impl.FrameRead(x.text), frameOut{Frame: x.f})
		same(t, x.text, impl.StreamText([]frame{x.f}), x.text+"\n")
		sameStream(t, x.text, impl.StreamRead(x.text+"\n"), streamOut{Frames: []frame{x.f}})
	}
}

func TestPromise9FrameText(t *testing.T) {
	for _, f := range append(rightFrames(), drawnFrames(rand.New(rand.NewSource(14)), 3000)...) {
		same(t, "right", impl.FrameText(f), frameTextByDocument(f))
	}
	for _, f := range wrongFrames() {
		same(t, "not right", impl.FrameText(f), "")
	}
	for _, f := range everyFrame() {
		want := ""
		if frameRightByDocument(f) {
			want = frameTextByDocument(f)
		}
		same(t, "of all kinds", impl.FrameText(f), want)
	}
}

func TestPromise9FramesComeBackFromTheirTexts(t *testing.T) {
	for _, f := range append(rightFrames(), drawnFrames(rand.New(rand.NewSource(15)), 5000)...) {
		text := impl.FrameText(f)
		same(t, text, impl.FrameRead(text), frameOut{Frame: f})
		same(t, "of printed bytes alone", printedBytes(text), true)
		same(t, "some text", len(text) > 0, true)
	}
}

func TestPromise9NoTwoFramesHaveOneText(t *testing.T) {
	seen := map[string]frame{}
	for _, f := range append(rightFrames(), drawnFrames(rand.New(rand.NewSource(16)), 3000)...) {
		text := impl.FrameText(f)
		if other, found := seen[text]; found && other != f {
			t.Errorf("%q is of %+v, and of %+v", text, f, other)
		}
		seen[text] = f
	}
}

// checkRead looks that what is read has just that text.
func checkRead(t *testing.T, text string) {
	t.Helper()
	got := impl.FrameRead(text)
	same(t, text, got, readByDocument(text))
	if got.Code == impl.OK {
		same(t, "its text", impl.FrameText(got.Frame), text)
		same(t, "right", impl.FrameRight(got.Frame), true)
	}
}

// notFrames are no frames' texts.
func notFrames() []string {
	l := []string{
		"", " ", "  ", "\n", "a", "0", "5", " bell", "bell ", "bell  ", "bell a", "bell 0", "bell\n", "bell\r", "bell\x00", "bells", "bel", "Bell", "BELL", "belL", "bell\tx", "bellbell", "bell bell",
		"put", "put ", "put  ", "put   ", "put  a", "put 3", "put 3 ", "put a", "put a b", "put  3 a", " put 3 a", "put3 a", "put 3a", "put\t3 a", "put 3\ta", "PUT 3 a", "Put 3 a", "putt 3 a", "puts 3 a",
		"put 03 a", "put 00 a", "put 000 a", "put 003 a", "put -0 a", "put -1 a", "put +3 a", "put +0 a", "put - a", "put + a", "put 3. a", "put 3.0 a", "put 0x3 a", "put 1_0 a", "put 1e1 a", "put 61 a", "put 99 a", "put 100 a", "put 060 a",
		"put \u0663 a", "put \u00b2 a", "put \uff13 a", "put 3\u00a0a", "put 3 \u00e9", "put 3 \x1f", "put 3 \x7f", "put 3 \n", "put 3 a\n", "put 3 a\r", "put 3 a\nbell", "put 3 " + fullText + " ", "put 3 " + fullText + "x",
		"drop", "drop ", "drop  ", "drop 3", "drop 3 ", "drop a", "drop 03 a", "drop +3 a", "drop 61 a", "drop  a", "DROP 3 a", "Drop 3 a", "dro 3 a", "drop 3 \x80", "drop 3 " + fullText + "x",
		"move", "move ", "move  ", "move  5", "move 5 ", "move 5  ", "move 5 a", "move 5 5", "move05", "move 05", "move 00", "move -0", "move -1", "move +5", "move a", "move 5a", "move a5", "move 5.", "move 61", "move 60 ", "move 600", "move 6 0", "MOVE 5", "Move 5", "mov 5", " move 5", "move 5\n", "move 5\x00",
		"all", "all ", "all  ", "all 3", "all a", "all  a", "all a b", "all 03 ", "all 00 ", "all +3 ", "all -1 ", "all 61 ", "all 61 a", "all  3 a", "ALL 3 a", "All 3 ", "al 3 a", "alls 3 a", "all 3\n", "all 3 \n", "all 0 a\x7f", "all 3 " + fullText + "x",
		"say", "say\n", "say \n", "say a\n", "say\ta", "saya", "says a", "Say a", "SAY a", " say a", "say \x1f", "say \x7f", "say \x80", "say \u00e9", "say " + strings.Repeat("a", 81), "say " + strings.Repeat(" ", 81),
		"done", "done\n", "done \n", "done a\n", "donea", "Done a", "DONE ", " done ", "done \x7f", "done " + fullText + "x", "done " + strings.Repeat(" ", 61), "don ", "don e", "dones a",
		"\x00bell", "\xffbell", "\ufeffbell", "bell\x1f", "frame 3 a", "line 3 a", "1 3 a", "6", "FrBell",
	}
	for _, n := range []string{"9223372036854775807", "9223372036854775808", "-9223372036854775808", "-9223372036854775809", "18446744073709551616", "18446744073709551619", "4294967299", "99999999999999999999", "340282366920938463463374607431768211456", strings.Repeat("0", 30), strings.Repeat("0", 30) + "3", strings.Repeat("9", 500)} {
		l = append(l, "put "+n+" a", "drop "+n+" a", "move "+n, "all "+n+" ", "all "+n+" a")
	}
	return l
}

func TestPromise9WhatIsNoFramesText(t *testing.T) {
	for _, text := range notFrames() {
		same(t, text, impl.FrameRead(text), frameSyntax())
		same(t, text, readByDocument(text), frameSyntax())
	}
	// A Text tells nothing of where it ends: what looks like more is its own.
	same(t, "blank behind", impl.FrameRead("put 3 a "), frameOut{Frame: putAt(3, "a ")})
	same(t, "two blanks", impl.FrameRead("done  "), frameOut{Frame: doneOf(" ")})
	same(t, "number behind", impl.FrameRead("say 03"), frameOut{Frame: sayOf("03")})
}

func TestPromise9WordsAndNumbers(t *testing.T) {
	words := []string{"", "put", "drop", "move", "all", "say", "bell", "done", "Put", "BELL", "kill", "pu", "puta", " put", "put ", "dr\x00op", "\xffsay"}
	places := []string{"", "0", "00", "5", "05", "+5", "-5", "-0", "5 ", " 5", "  ", "a", "5a", "10", "59", "60", "060", "61", "100", "600", "1 0", "9223372036854775807", "9223372036854775808", "99999999999999999999", "18446744073709551621"}
	behinds := []string{"", " ", "  ", "a", " a", " a ", "  a", " 5", " \x1f", " ~", " \x7f", "\n", " " + fullText, " " + fullText + "x", " " + strings.Repeat("x", 78)}
	for _, word := range words {
		checkRead(t, word)
		for _, place := range places {
			for _, behind := range behinds {
				checkRead(t, word+" "+place+behind)
				checkRead(t, word+place+behind)
			}
		}
		for at := -3; at <= 130; at++ {
			for _, form := range []string{"%s %d", "%s %02d", "%s %03d", "%s %d ", "%s %d a", "%s %02d a", "%s %+d a", "%s %d  a", "%s  %d a"} {
				checkRead(t, fmt.Sprintf(form, word, at))
			}
		}
	}
}

// fewFrames are of each Kind, short and long.
func fewFrames() []frame {
	return []frame{
		putAt(0, "a"), putAt(12, " b 3"), putAt(60, fullText), dropAt(9, "xy"), dropAt(10, " "), moveTo(0), moveTo(7), moveTo(60), allAt(0, ""), allAt(6, "6 all "), allAt(59, fullText),
		sayOf(""), sayOf("cap A"), sayOf(strings.Repeat("s", 80)), bellOf(), doneOf(""), doneOf("bell"), doneOf(fullText),
	}
}

// eachTouch hands on all texts that come of turning, dropping, and putting in one byte.
func eachTouch(text string, take func(text string)) {
	for at := range len(text) + 1 {
		take(text[:at])
		for i := range 256 {
			b := string([]byte{byte(i)})
			take(text[:at] + b + text[at:])
			if at < len(text) {
				take(text[:at] + b + text[at+1:])
			}
		}
		if at < len(text) {
			take(text[:at] + text[at+1:])
			take(text[at:])
		}
	}
}

func TestPromise9EachByteTouched(t *testing.T) {
	for _, f := range fewFrames() {
		eachTouch(impl.FrameText(f), func(text string) { checkRead(t, text) })
	}
}

func TestPromise9WhateverText(t *testing.T) {
	r := rand.New(rand.NewSource(17))
	pieces := []string{"put", "drop", "move", "all", "say", "bell", "done", " ", " ", " ", " ", "0", "3", "6", "60", "-", "+", "a", "~", "\n", "\x00", "\xff", "B"}
	for range 40000 {
		text := ""
		for range r.Intn(7) {
			text += pieces[r.Intn(len(pieces))]
		}
		checkRead(t, text)
	}
	for range 5000 {
		b := make([]byte, r.Intn(30))
		for i := range b {
			b[i] = byte(r.Intn(256))
		}
		checkRead(t, string(b))
	}
}

func TestPromise9FrameReadSizes(t *testing.T) {
	size := frameOut{Code: impl.ErrSize}
	for _, piece := range []string{"a", " ", "\n", "bell\n", "put 3 a", "say ", "0", "\xff"} {
		long := strings.Repeat(piece, impl.MaxBytes+1)
		for _, word := range []string{"", "bell", "put 3 ", "put ", "move ", "say ", "done ", "all 0 ", "drop 60 "} {
			text := word + long
			same(t, "one less", impl.FrameRead(text[:impl.MaxBytes-1]), frameSyntax())
			same(t, "just as many", impl.FrameRead(text[:impl.MaxBytes]), frameSyntax())
			same(t, "one more", impl.FrameRead(text[:impl.MaxBytes+1]), size)
			same(t, "many more", impl.FrameRead(text+long), size)
		}
	}
}

// streamTextOf puts together what the document says.
func streamTextOf(l []frame) string {
	all := ""
	for _, f := range l {
		all += frameTextByDocument(f) + "\n"
	}
	return all
}

// checkComesBack tries right Frames, at most MaxList.
func checkComesBack(t *testing.T, l []frame) {
	t.Helper()
	text := impl.StreamText(l)
	same(t, "stream", text, streamTextOf(l))
	same(t, "printed but for line feeds", printedBytes(strings.ReplaceAll(text, "\n", "")), true)
	same(t, "a line feed behind each", strings.Count(text, "\n"), len(l))
	want := streamOut{Frames: l}
	if len(text) > impl.MaxBytes {
		want = streamOut{Code: impl.ErrSize}
	}
	sameStream(t, text, impl.StreamRead(text), want)
}

func TestPromise9StreamsComeBack(t *testing.T) {
	same(t, "no Frame", impl.StreamText(nil), "")
	same(t, "no Frame", impl.StreamText([]frame{}), "")
	same(t, "two", impl.StreamText([]frame{putAt(3, " a b"), bellOf()}), "put 3  a b\nbell\n")
	checkComesBack(t, nil)
	checkComesBack(t, fewFrames())
	for _, f := range rightFrames() {
		checkComesBack(t, []frame{f})
		checkComesBack(t, []frame{f, f})
	}
	for size := range impl.MaxList + 1 {
		checkComesBack(t, slices.Repeat([]frame{bellOf()}, size))
	}
	r := rand.New(rand.NewSource(18))
	for range 300 {
		checkComesBack(t, drawnFrames(r, r.Intn(200)))
	}
	for _, size := range []int{impl.MaxList - 1, impl.MaxList} {
		checkComesBack(t, drawnFrames(r, size))
	}
}

func TestPromise9StreamTextLongerThanCanBeHandedIn(t *testing.T) {
	long := sayOf(strings.Repeat("s", 80))
	// Each is of 85 bytes with its line feed: 94 of them, and two bells, are of MaxBytes bytes.
	most := append(slices.Repeat([]frame{long}, 94), bellOf(), bellOf())
	text := impl.StreamText(most)
	same(t, "just as many", len(text), impl.MaxBytes)
	sameStream(t, "just as many", impl.StreamRead(text), streamOut{Frames: most})
	for _, l := range [][]frame{append(slices.Clone(most[:95]), moveTo(0), bellOf()), append(slices.Clone(most[:94]), sayOf("0"), sayOf("")), append(slices.Clone(most), bellOf()), slices.Repeat([]frame{long}, impl.MaxList)} {
		text := impl.StreamText(l)
		same(t, "whole", text, streamTextOf(l))
		if len(text) > impl.MaxBytes {
			sameStream(t, "too long to be handed in", impl.StreamRead(text), streamOut{Code: impl.ErrSize})
		}
	}
	one := append(slices.Clone(most[:94]), bellOf(), sayOf("a"))
	same(t, "one more", len(impl.StreamText(one)), impl.MaxBytes+1)
	same(t, "one more", impl.StreamText(one), streamTextOf(one))
	sameStream(t, "one more", impl.StreamRead(impl.StreamText(one)), streamOut{Code: impl.ErrSize})
	same(t, "the longest", len(impl.StreamText(slices.Repeat([]frame{long}, impl.MaxList))), 85*impl.MaxList)
}

func TestPromise9StreamTextOfWhatIsNotRight(t *testing.T) {
	few := fewFrames()
	many := slices.Repeat(few, 23)[:impl.MaxList]
	for _, w := range wrongFrames() {
		same(t, "alone", impl.StreamText([]frame{w}), "")
		same(t, "at the beginning", impl.StreamText(append([]frame{w}, few...)), "")
		same(t, "in the midst", impl.StreamText(slices.Insert(slices.Clone(few), 7, w)), "")
		same(t, "at the end", impl.StreamText(append(slices.Clone(few), w)), "")
	}
	for place := range many {
		l := slices.Clone(many)
		l[place] = putAt(0, "")
		same(t, "among as many as can be", impl.StreamText(l), "")
		l[place] = frame{}
		same(t, "among as many as can be", impl.StreamText(l), "")
	}
	same(t, "as many as can be", impl.StreamText(many), streamTextOf(many))
	for _, size := range []int{impl.MaxList + 1, impl.MaxList + 2, 2 * impl.MaxList, 656, 10 * impl.MaxList} {
		same(t, "more than can be", impl.StreamText(slices.Repeat([]frame{bellOf()}, size)), "")
		same(t, "more than can be", impl.StreamText(slices.Repeat(few, size)[:size]), "")
		same(t, "more than can be, none right", impl.StreamText(make([]frame, size)), "")
	}
}

func TestPromise9StreamRead(t *testing.T) {
	bell, say := bellOf(), sayOf("")
	for _, x := range []struct {
		text string
		want streamOut
	}{
		{"", streamOut{}},
		{"bell\n", streamOut{Frames: []frame{bell}}},
		{"bell\nsay \n", streamOut{Frames: []frame{bell, say}}},
		{"bell\nbell\nbell\n", streamOut{Frames: []frame{bell, bell, bell}}},
		{"put 3  a b\nbell\n", streamOut{Frames: []frame{putAt(3, " a b"), bell}}},
		{"all 60 \ndone \n", streamOut{Frames: []frame{allAt(60, ""), doneOf("")}}},
		{"say bell\n", streamOut{Frames: []frame{sayOf("bell")}}},
		{"say \\nbell\n", streamOut{Frames: []frame{sayOf("\\nbell")}}},
		// Each has its line feed, the last one too.
		{"bell", streamSyntax()}, {"bell\nbell", streamSyntax()}, {"bell\nsay ", streamSyntax()}, {"say", streamSyntax()}, {"bell\nb", streamSyntax()}, {"bell\n ", streamSyntax()},
		// No line is empty.
		{"\n", streamSyntax()}, {"\n\n", streamSyntax()}, {"bell\n\n", streamSyntax()}, {"\nbell\n", streamSyntax()}, {"bell\n\nbell\n", streamSyntax()}, {"\n\nbell\n", streamSyntax()}, {"\nbell", streamSyntax()},
		// Nothing but a line feed is one.
		{"bell\r\n", streamSyntax()}, {"bell\nbell\r\n", streamSyntax()}, {"bell\r\nbell\n", streamSyntax()}, {"say a\r\n", streamSyntax()}, {"bell\r", streamSyntax()}, {"bell\n\r", streamSyntax()}, {"\r\n", streamSyntax()}, {"bell\n\r\n", streamSyntax()}, {"bell\rbell\n", streamSyntax()},
		{"bell\x00", streamSyntax()}, {"bell\u2028bell\n", streamSyntax()}, {"bell\x0bbell\n", streamSyntax()}, {"bell\x0cbell\n", streamSyntax()}, {"bell\u0085", streamSyntax()},
		// A frame's text is all of its line.
		{"say a\nb\n", streamSyntax()}, {"bell \n", streamSyntax()}, {" bell\n", streamSyntax()}, {"bell\n bell\n", streamSyntax()}, {"bell bell\n", streamSyntax()}, {"bell\nmove 05\n", streamSyntax()},
	} {
		sameStream(t, x.text, impl.StreamRead(x.text), x.want)
		sameStream(t, x.text, streamByDocument(x.text), x.want)
	}
}

func TestPromise9StreamReadOfWhatIsNoFramesText(t *testing.T) {
	ahead, behind := "put 3 a\nbell\n", "done x\nsay \n"
	for _, w := range notFrames() {
		if strings.Contains(w, "\n") {
			// That may be two lines, both right.
			for _, text := range []string{w + "\n", w + "\n" + behind, ahead + w + "\n" + behind, ahead + w + "\n", ahead + w} {
				sameStream(t, text, impl.StreamRead(text), streamByDocument(text))
			}
			continue
		}
		for _, text := range []string{w + "\n", w + "\n" + behind, ahead + w + "\n" + behind, ahead + w + "\n", w + "\n" + w + "\n"} {
			sameStream(t, text, impl.StreamRead(text), streamSyntax())
		}
	}
	many := strings.Repeat("bell\n", impl.MaxList)
	for place := 0; place < impl.MaxList; place += 19 {
		text := many[:5*place] + "Bell\n" + many[5*place+5:]
		sameStream(t, "among as many as can be", impl.StreamRead(text), streamSyntax())
	}
}

func TestPromise9EachByteOfAStreamTouched(t *testing.T) {
	for _, text := range []string{"bell\n", "say \nbell\n", "put 3  a\nmove 0\ndone bell\n", impl.StreamText(fewFrames())} {
		eachTouch(text, func(text string) {
			got := impl.StreamRead(text)
			sameStream(t, text, got, streamByDocument(text))
			if got.Code == impl.OK {
				same(t, "its text", impl.StreamText(got.Frames), text)
			}
		})
	}
}

func TestPromise9WhateverStream(t *testing.T) {
	r := rand.New(rand.NewSource(19))
	pieces := []string{"bell\n", "bell\n", "bell\n", "say a\n", "done \n", "put 3 a\n", "move 5\n", "all 0 \n", "bell", "\n", " ", "say ", "put 0", "\r\n", "x\n"}
	for range 20000 {
		text := ""
		for range r.Intn(6) {
			text += pieces[r.Intn(len(pieces))]
		}
		sameStream(t, text, impl.StreamRead(text), streamByDocument(text))
	}
}

func TestPromise9StreamReadSizes(t *testing.T) {
	for _, size := range []int{impl.MaxList - 1, impl.MaxList, impl.MaxList + 1, impl.MaxList + 2, 656, 2 * impl.MaxList, 1600} {
		want := streamOut{Frames: slices.Repeat([]frame{bellOf()}, size)}
		if size > impl.MaxList {
			want = streamSyntax()
		}
		sameStream(t, "so many lines", impl.StreamRead(strings.Repeat("bell\n", size)), want)
	}
	bells := strings.Repeat("bell\n", impl.MaxList)
	for _, more := range []string{"bell", "\n", "x", "x\n", "say \n"} {
		sameStream(t, "one more", impl.StreamRead(bells+more), streamSyntax())
	}
	// More bytes than can be handed in come first, whatever is wrong beside.
	size := streamOut{Code: impl.ErrSize}
	for _, piece := range []string{"bell\n", "a", "\n", "say \n", " ", "\xff", "say " + strings.Repeat("s", 80) + "\n", "bell"} {
		text := strings.Repeat(piece, impl.MaxBytes+1)
		sameStream(t, "just as many", impl.StreamRead(text[:impl.MaxBytes]), streamByDocument(text[:impl.MaxBytes]))
		sameStream(t, "one less", impl.StreamRead(text[:impl.MaxBytes-1]), streamByDocument(text[:impl.MaxBytes-1]))
		sameStream(t, "one more", impl.StreamRead(text[:impl.MaxBytes+1]), size)
		sameStream(t, "many more", impl.StreamRead(text+text), size)
	}
	say := "say " + strings.Repeat("s", 80) + "\n"
	sameStream(t, "without its last line feed", impl.StreamRead(strings.Repeat(say, 94)+"say 12345"), streamSyntax())
	right := strings.Repeat(say, 94) + "say 12345\n"
	sameStream(t, "right, just as many", impl.StreamRead(right), streamByDocument(right))
	same(t, "right, just as many", len(impl.StreamRead(right).Frames), 95)
	sameStream(t, "right, one more", impl.StreamRead(strings.Repeat(say, 94)+"say 123456\n"), size)
}

func cloneFrame(f frame) frame {
	return frame{Kind: f.Kind, At: f.At, Text: strings.Clone(f.Text)}
}

func TestPromise9NewMemory(t *testing.T) {
	for _, f := range append(rightFrames(), wrongFrames()...) {
		in := cloneFrame(f)
		text := impl.FrameText(in)
		anyShares(t, text, in.Text)
		anyShares(t, impl.StreamText([]frame{in}), in.Text)
		impl.FrameRight(in)
		same(t, "handed in", in, f)
		handed := strings.Clone(text)
		anyShares(t, impl.FrameRead(handed).Frame.Text, handed)
	}
	for _, x := range frameRows() {
		text := strings.Clone(x.text)
		anyShares(t, impl.FrameRead(text).Frame.Text, text)
	}
}

func TestPromise9NewStreams(t *testing.T) {
	r := rand.New(rand.NewSource(20))
	lists := [][]frame{nil, {}, {bellOf()}, fewFrames(), drawnFrames(r, 60), {putAt(0, "a"), {}}, wrongFrames()[:30]}
	for _, l := range lists {
		other := sayOf("behind")
		in := withRoom(l, cloneFrame, other)
		all := slices.Clone(in[:cap(in)])
		text := impl.StreamText(in)
		for _, f := range in {
			anyShares(t, text, f.Text)
			anyShares(t, f.Text, text)
		}
		same(t, "handed in", slices.Equal(in[:cap(in)], all), true)
		got, again := impl.StreamRead(text), impl.StreamRead(text)
		for i, f := range got.Frames {
			anyShares(t, f.Text, text)
			for _, x := range got.Frames[i+1:] {
				anyShares(t, f.Text, x.Text)
			}
		}
		spoil(got.Frames, other)
		sameStream(t, "handed back ahead", again, streamByDocument(text))
		sameStream(t, "handed back behind", impl.StreamRead(text), again)
	}
}
