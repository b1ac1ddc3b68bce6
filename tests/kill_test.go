package tests

import (
	"math"
	"math/rand"
	"slices"
	"strings"
	"testing"

	"loop.example/g00731/impl"
)

type kills = impl.Kills

func killsAt(top int64, texts ...string) kills {
	return kills{Texts: texts, Top: top}
}

func sameKills(t *testing.T, what string, got kills, want kills) {
	t.Helper()
	if got.Top != want.Top || !slices.Equal(got.Texts, want.Texts) {
		t.Errorf("%.80q: got %.400v, want %.400v", what, got, want)
	}
}

func sameLines(t *testing.T, what string, got []line, want []line) {
	t.Helper()
	if !slices.Equal(got, want) {
		t.Errorf("%.80q: got %.400v, want %.400v", what, got, want)
	}
}

// mores are on both sides of 0, some of them such that their lowest bits are 0, or of the other side.
func mores() []int64 {
	return []int64{0, 1, -1, 2, -2, 256, -256, 1 << 32, -1 << 32, 1<<32 - 1, 1<<31 + 1, -1<<31 - 1, math.MaxInt64, math.MaxInt64 - 1, math.MinInt64, math.MinInt64 + 1}
}

// manyTexts are right ones, no two alike.
func manyTexts(size int) []string {
	l := []string{}
	for i := range size {
		l = append(l, "kill "+string([]byte{byte('a' + i%26), byte('a' + i/26)}))
	}
	return l
}

// fiveTexts are as many as are kept, some of them alike.
func fiveTexts() []string {
	return []string{"one", " ", fullText, "one", "~two"}
}

// rightKills are of no text, of one, and so on up to MaxKills, each with all its tops.
func rightKills() []kills {
	l := []kills{{}, {Texts: []string{}}}
	for _, texts := range [][]string{manyTexts(impl.MaxKills), fiveTexts(), {fullText, fullText, fullText, fullText, fullText}} {
		for size := range texts {
			for top := range size + 1 {
				l = append(l, killsAt(int64(top), texts[:size+1]...))
			}
		}
	}
	for _, b := range strings.Split(printed(), "") {
		l = append(l, killsAt(0, b), killsAt(1, "a", b+fullText[1:]))
	}
	return l
}

// farTops are a place of none, however many texts there are.
func farTops() []int64 {
	return []int64{-1, -2, -256, impl.MaxKills, impl.MaxKills + 1, 256, 1 << 32, 1<<32 + 1, -1 << 32, math.MaxInt64, math.MinInt64, math.MinInt64 + 1}
}

// wrongKills are no Kills: of each a text is wrong, or how many there are, or the place.
func wrongKills() []kills {
	l := []kills{
		killsAt(1), killsAt(1, "a"), killsAt(2, "a", "b"), killsAt(impl.MaxKills-1, manyTexts(impl.MaxKills-1)...),
		killsAt(0, ""), killsAt(0, "", "a"), killsAt(0, "a", ""), killsAt(1, "a", "", "b"), killsAt(4, "a", "b", "c", "d", ""),
	}
	for _, size := range []int{0, 1, 2, impl.MaxKills} {
		for _, top := range farTops() {
			l = append(l, killsAt(top, manyTexts(size)...))
		}
	}
	for _, size := range []int{impl.MaxKills + 1, impl.MaxKills + 2, impl.MaxList, impl.MaxList + 1, 2 * impl.MaxList} {
		l = append(l, killsAt(0, manyTexts(size)...), killsAt(int64(size-1), manyTexts(size)...), killsAt(-1, manyTexts(size)...))
	}
	for _, w := range append(wrongTexts(), strings.Repeat("a", impl.MaxBytes+1)) {
		l = append(l, killsAt(0, w), killsAt(0, w, "a"), killsAt(1, "a", w), killsAt(0, "a", "b", w, "c", "d"), killsAt(5, "a", "b", "c", "d", w))
	}
	return l
}

// killTexts are all right: short ones and long ones, some of them alike to what is kept.
func killTexts() []string {
	return append(strings.Split(printed(), ""), "one", "kill a", " x ", fullText[:30], fullText[:31], fullText[:59], fullText)
}

// printedBytes tells it byte by byte, not rune by rune.
func printedBytes(t string) bool {
	for i := range len(t) {
		if t[i] < ' ' || t[i] > '~' {
			return false
		}
	}
	return true
}

func killsRightByDocument(k kills) bool {
	for _, x := range k.Texts {
		if len(x) < 1 || len(x) > impl.MaxLine || !printedBytes(x) {
			return false
		}
	}
	if len(k.Texts) == 0 {
		return k.Top == 0
	}
	return len(k.Texts) <= impl.MaxKills && k.Top >= 0 && k.Top < int64(len(k.Texts))
}

// killPutByDocument goes sentence by sentence for right Kills and a right text.
func killPutByDocument(k kills, t string, more int64) kills {
	texts := slices.Clone(k.Texts)
	if t == "" {
		return kills{Texts: texts, Top: k.Top}
	}
	last := len(texts) - 1
	fits := last >= 0 && len(texts[last])+len(t) <= impl.MaxLine
	switch {
	case more > 0 && fits:
		texts[last] = texts[last] + t
	case more < 0 && fits:
		texts[last] = t + texts[last]
	default:
		texts = append(texts, t)
	}
	if len(texts) > impl.MaxKills {
		texts = slices.Delete(texts, 0, 1)
	}
	return kills{Texts: texts, Top: int64(len(texts) - 1)}
}

func TestPromise6KillsRight(t *testing.T) {
	for _, k := range rightKills() {
		same(t, "right", impl.KillsRight(k), true)
	}
	for _, k := range wrongKills() {
		same(t, "wrong", impl.KillsRight(k), false)
	}
	for size := range impl.MaxKills + 3 {
		for top := int64(-2); top <= impl.MaxKills+3; top++ {
			k := killsAt(top, manyTexts(size)...)
			same(t, "place", impl.KillsRight(k), killsRightByDocument(k))
		}
	}
	for i := range 256 {
		b := string([]byte{byte(i)})
		want := 32 <= i && i <= 126
		same(t, "alone "+b, impl.KillsRight(killsAt(0, b)), want)
		same(t, "first "+b, impl.KillsRight(killsAt(0, b+"a", "b")), want)
		same(t, "last "+b, impl.KillsRight(killsAt(0, "a", "b", "c", "d", "a"+b)), want)
	}
	for _, size := range []int{0, 1, 2, impl.MaxLine - 1, impl.MaxLine, impl.MaxLine + 1, impl.MaxBytes, impl.MaxBytes + 1} {
		want := 1 <= size && size <= impl.MaxLine
		same(t, "size alone", impl.KillsRight(killsAt(0, strings.Repeat("a", size))), want)
		same(t, "size of the last one", impl.KillsRight(killsAt(0, "a", strings.Repeat("a", size))), want)
	}
}

func TestPromise6KillPut(t *testing.T) {
	full := manyTexts(impl.MaxKills)
	behindFull := append(slices.Clone(full[1:]), "x")
	for _, x := range []struct {
		k    kills
		t    string
		more int64
		want kills
	}{
		{kills{}, "x", 0, killsAt(0, "x")}, {kills{}, "x", 1, killsAt(0, "x")}, {kills{}, "x", -1, killsAt(0, "x")},
		{killsAt(0, "one"), "x", 0, killsAt(1, "one", "x")},
		{killsAt(0, "one"), "x", 1, killsAt(0, "onex")},
		{killsAt(0, "one"), "x", -1, killsAt(0, "xone")},
		// It is the last one that is put to, and Top its place, wherever it was.
		{killsAt(0, "one", "two"), "x", 0, killsAt(2, "one", "two", "x")},
		{killsAt(0, "one", "two"), "x", 1, killsAt(1, "one", "twox")},
		{killsAt(0, "one", "two"), "x", -1, killsAt(1, "one", "xtwo")},
		{killsAt(1, "one", "two"), "x", math.MaxInt64, killsAt(1, "one", "twox")},
		{killsAt(1, "one", "two"), "x", math.MinInt64, killsAt(1, "one", "xtwo")},
		// What is the last one already is killed again.
		{killsAt(0, "one", "x"), "x", 0, killsAt(2, "one", "x", "x")},
		// Of more than MaxKills the first one goes; where one goes on, none does.
		{killsAt(2, full[:4]...), "x", 0, killsAt(4, append(slices.Clone(full[:4]), "x")...)},
		{killsAt(0, full...), "x", 0, killsAt(4, behindFull...)},
		{killsAt(4, full...), "x", 0, killsAt(4, behindFull...)},
		{killsAt(0, full...), "x", 1, killsAt(4, full[0], full[1], full[2], full[3], full[4]+"x")},
		{killsAt(2, full...), "x", -1, killsAt(4, full[0], full[1], full[2], full[3], "x"+full[4])},
		{killsAt(0, full...), fullText, 1, killsAt(4, full[1], full[2], full[3], full[4], fullText)},
		{killsAt(0, full...), fullText, -1, killsAt(4, full[1], full[2], full[3], full[4], fullText)},
	} {
		sameKills(t, x.t, impl.KillPut(x.k, x.t, x.more), x.want)
	}
}

func TestPromise6KillPutWhereItJustIsARightText(t *testing.T) {
	for size := 1; size <= impl.MaxLine; size++ {
		last, room := fullText[:size], impl.MaxLine-size
		for _, ahead := range [][]string{nil, {"one"}, manyTexts(impl.MaxKills - 1)} {
			k := killsAt(0, append(slices.Clone(ahead), last)...)
			top := int64(len(ahead))
			if room > 0 {
				sameKills(t, "just room behind", impl.KillPut(k, fullText[:room], 1), killsAt(top, append(slices.Clone(ahead), last+fullText[:room])...))
				sameKills(t, "just room ahead", impl.KillPut(k, fullText[:room], -1), killsAt(top, append(slices.Clone(ahead), fullText[:room]+last)...))
			}
			behind := append(slices.Clone(ahead), last, fullText[:room+1])
			behind = behind[max(0, len(behind)-impl.MaxKills):]
			for _, more := range []int64{1, -1} {
				sameKills(t, "one byte more", impl.KillPut(k, fullText[:room+1], more), killsAt(int64(len(behind)-1), behind...))
			}
		}
	}
}

func TestPromise6KillPutOfAllKinds(t *testing.T) {
	for _, k := range rightKills() {
		for _, text := range killTexts() {
			for _, more := range mores() {
				got := impl.KillPut(k, text, more)
				sameKills(t, text, got, killPutByDocument(k, text, more))
				same(t, "right", impl.KillsRight(got), true)
				top := impl.KillTop(got)
				same(t, "whole, on top", top == text || more > 0 && strings.HasSuffix(top, text) || more < 0 && strings.HasPrefix(top, text), true)
				same(t, "at the last place", got.Top, int64(len(got.Texts)-1))
			}
		}
	}
}

func TestPromise6KillPutOfNothing(t *testing.T) {
	for _, k := range append(rightKills(), wrongKills()...) {
		for _, more := range mores() {
			sameKills(t, "an empty text", impl.KillPut(k, "", more), k)
		}
	}
}

func TestPromise6KillPutOfWhatIsNotRight(t *testing.T) {
	for _, more := range []int64{0, 1, -1, math.MaxInt64, math.MinInt64} {
		for _, k := range rightKills() {
			for _, w := range wrongTexts() {
				sameKills(t, "text not right", impl.KillPut(k, w, more), k)
			}
		}
		for _, k := range wrongKills() {
			for _, text := range append(wrongTexts(), "x", "~", fullText) {
				sameKills(t, "Kills not right", impl.KillPut(k, text, more), k)
			}
		}
		for i := range 256 {
			b := string([]byte{byte(i)})
			for _, k := range []kills{{}, killsAt(0, "a", "b")} {
				want := k
				if 32 <= i && i <= 126 {
					want = killPutByDocument(k, b, more)
				}
				sameKills(t, "byte "+b, impl.KillPut(k, b, more), want)
			}
		}
	}
}

func TestPromise6KillPutOfWhatIsTooLongToBeHandedIn(t *testing.T) {
	for _, k := range append(rightKills(), wrongKills()...) {
		for _, more := range []int64{0, 1, -1} {
			for _, text := range []string{strings.Repeat("a", impl.MaxBytes+1), strings.Repeat("\n", 2*impl.MaxBytes)} {
				sameKills(t, "too long to be handed in", impl.KillPut(k, text, more), kills{})
			}
			sameKills(t, "just not too long", impl.KillPut(k, strings.Repeat("a", impl.MaxBytes), more), k)
		}
	}
}

func TestPromise6KillTop(t *testing.T) {
	same(t, "without any", impl.KillTop(kills{}), "")
	same(t, "without any", impl.KillTop(kills{Texts: []string{}}), "")
	same(t, "one", impl.KillTop(killsAt(0, "one")), "one")
	same(t, "the first", impl.KillTop(killsAt(0, "one", "two")), "one")
	same(t, "the last", impl.KillTop(killsAt(1, "one", "two")), "two")
	for _, k := range rightKills() {
		if len(k.Texts) > 0 {
			same(t, "at Top", impl.KillTop(k), k.Texts[k.Top])
		}
	}
	for _, k := range wrongKills() {
		same(t, "not right", impl.KillTop(k), "")
	}
}

func TestPromise6KillTurn(t *testing.T) {
	sameKills(t, "without any", impl.KillTurn(kills{}), kills{})
	sameKills(t, "one", impl.KillTurn(killsAt(0, "one")), killsAt(0, "one"))
	sameKills(t, "one less", impl.KillTurn(killsAt(1, "one", "two")), killsAt(0, "one", "two"))
	sameKills(t, "from 0 on", impl.KillTurn(killsAt(0, "one", "two")), killsAt(1, "one", "two"))
	sameKills(t, "from 0 on", impl.KillTurn(killsAt(0, fiveTexts()...)), killsAt(4, fiveTexts()...))
	for _, k := range wrongKills() {
		sameKills(t, "not right", impl.KillTurn(k), k)
	}
	for _, k := range rightKills() {
		many := int64(len(k.Texts))
		at := k
		for turns := range many {
			at = impl.KillTurn(at)
			sameKills(t, "turned", at, kills{Texts: k.Texts, Top: (k.Top + many - turns - 1) % many})
			same(t, "right", impl.KillsRight(at), true)
		}
		sameKills(t, "as often as there are", at, k)
	}
}

func TestPromise6InARow(t *testing.T) {
	r := rand.New(rand.NewSource(6))
	texts := append(append(killTexts(), ""), wrongTexts()...)
	for range 60 {
		k, want := kills{}, kills{}
		for range 60 {
			if r.Intn(4) == 0 {
				k = impl.KillTurn(k)
				want.Top = max(0, (want.Top+int64(len(want.Texts))-1)%int64(max(1, len(want.Texts))))
			} else {
				text, more := texts[r.Intn(len(texts))], int64(r.Intn(3)-1)
				k = impl.KillPut(k, text, more)
				if len(text) <= impl.MaxLine && printedBytes(text) {
					want = killPutByDocument(want, text, more)
				}
			}
			sameKills(t, "in a row", k, want)
			same(t, "right", impl.KillsRight(k), true)
		}
	}
}

// manyLines are right ones, no two of one text.
func manyLines(size int) []line {
	l := []line{}
	for i, text := range manyTexts(size) {
		l = append(l, lineAt(text, int64(i%len(text))))
	}
	return l
}

// rightUndos are of no line, of one, and so on up to MaxUndos.
func rightUndos() [][]line {
	l := [][]line{nil, {}, {{}}, {{}, {}}, {lineAt("a", 1), lineAt("a", 0), lineAt("a", 1)}, {lineAt(fullText, 60), {}, lineAt(fullText, 0)}}
	for size := range impl.MaxUndos + 1 {
		l = append(l, manyLines(size), slices.Repeat([]line{lineAt("one two", 4)}, size))
	}
	return l
}

// wrongUndos are no more than can be handed in, but too many, or a line of them is wrong.
func wrongUndos() [][]line {
	l := [][]line{manyLines(impl.MaxUndos + 1), manyLines(impl.MaxUndos + 2), manyLines(impl.MaxList), make([]line, impl.MaxUndos+1), make([]line, impl.MaxList)}
	for _, w := range wrongLines() {
		all := manyLines(impl.MaxUndos)
		all[7] = w
		l = append(l, []line{w}, []line{w, {}}, []line{lineAt("a", 1), w}, all, append(manyLines(impl.MaxUndos), w))
	}
	return l
}

func undoTexts() []string {
	return []string{"", "a", "b", " ", "one two", "one twO", "kill a", manyTexts(impl.MaxUndos)[19], fullText, fullText[:59]}
}

func TestPromise6UndosRight(t *testing.T) {
	for _, l := range rightUndos() {
		same(t, "right", impl.UndosRight(l), true)
	}
	for _, l := range wrongUndos() {
		same(t, "wrong", impl.UndosRight(l), false)
	}
	for _, size := range []int{impl.MaxList + 1, 2 * impl.MaxList} {
		same(t, "more than can be handed in", impl.UndosRight(make([]line, size)), false)
	}
	for at := range impl.MaxUndos {
		l := manyLines(impl.MaxUndos)
		l[at].At = int64(len(l[at].Text))
		same(t, "at the end of one", impl.UndosRight(l), true)
		l[at].At++
		same(t, "behind the end of one", impl.UndosRight(l), false)
		l[at] = lineAt("a\x7f", 0)
		same(t, "a byte of one", impl.UndosRight(l), false)
	}
}

func TestPromise6UndoPut(t *testing.T) {
	full := manyLines(impl.MaxUndos)
	for _, x := range []struct {
		l    []line
		x    line
		want []line
	}{
		{nil, lineAt("a", 1), []line{lineAt("a", 1)}},
		// There is no last one: one of an empty Text is put behind none.
		{nil, line{}, []line{{}}},
		{[]line{{}}, line{}, []line{{}}},
		{[]line{lineAt("a", 1)}, line{}, []line{lineAt("a", 1), {}}},
		{[]line{lineAt("a", 1)}, lineAt("b", 0), []line{lineAt("a", 1), lineAt("b", 0)}},
		// The Text alone counts, not where one stands in it.
		{[]line{lineAt("a", 1)}, lineAt("a", 1), []line{lineAt("a", 1)}},
		{[]line{lineAt("a", 1)}, lineAt("a", 0), []line{lineAt("a", 1)}},
		{[]line{lineAt("a", 1)}, lineAt("A", 1), []line{lineAt("a", 1), lineAt("A", 1)}},
		// An earlier one may be alike.
		{[]line{lineAt("a", 1), lineAt("b", 1)}, lineAt("a", 1), []line{lineAt("a", 1), lineAt("b", 1), lineAt("a", 1)}},
		{[]line{{}, lineAt("b", 1)}, line{}, []line{{}, lineAt("b", 1), {}}},
		// Of more than MaxUndos the first one goes.
		{full[1:], lineAt("x", 1), append(slices.Clone(full[1:]), lineAt("x", 1))},
		{full, lineAt("x", 1), append(slices.Clone(full[1:]), lineAt("x", 1))},
		{full, full[0], append(slices.Clone(full[1:]), full[0])},
		{full, lineAt(full[19].Text, 0), full},
	} {
		sameLines(t, x.x.Text, impl.UndoPut(x.l, x.x), x.want)
	}
}

func TestPromise6UndoPutOfAllKinds(t *testing.T) {
	for _, l := range rightUndos() {
		for _, text := range undoTexts() {
			for _, at := range []int64{0, int64(len(text) / 2), int64(len(text))} {
				x := lineAt(text, at)
				want := append(slices.Clone(l), x)
				if len(l) > 0 && l[len(l)-1].Text == text {
					want = l
				}
				got := impl.UndoPut(l, x)
				sameLines(t, text, got, want[max(0, len(want)-impl.MaxUndos):])
				same(t, "right", impl.UndosRight(got), true)
				same(t, "whole, at the end", got[len(got)-1].Text, text)
			}
		}
	}
}

func TestPromise6UndoPutOfWhatIsNotRight(t *testing.T) {
	for _, l := range rightUndos() {
		for _, w := range append(wrongLines(), lineAt("one two", 8), lineAt("kill ta", -1)) {
			sameLines(t, "line not right", impl.UndoPut(l, w), l)
		}
	}
	for _, l := range wrongUndos() {
		for _, x := range []line{{}, lineAt("x", 1), lineAt(fullText, 60), lineAt("x", 2), lineAt("\n", 0), l[len(l)-1]} {
			sameLines(t, "Undos not right", impl.UndoPut(l, x), l)
		}
	}
	for _, size := range []int{impl.MaxList + 1, impl.MaxList + 2, 2 * impl.MaxList} {
		for _, x := range []line{{}, lineAt("x", 1), lineAt("x", 2), {Text: strings.Repeat("a", impl.MaxBytes+1)}} {
			sameLines(t, "more than can be handed in", impl.UndoPut(manyLines(size), x), nil)
			sameLines(t, "more than can be handed in", impl.UndoPut(make([]line, size), x), nil)
		}
	}
}

// withRoom is such a list of its own memory, with room behind it in which something stands.
func withRoom[T any](l []T, own func(T) T, behind T) []T {
	all := make([]T, 0, len(l)+4)
	for _, x := range l {
		all = append(all, own(x))
	}
	return append(all, behind, behind, behind, behind)[:len(l)]
}

func cloneLine(l line) line {
	return line{Text: strings.Clone(l.Text), At: l.At}
}

// spoil writes over all the memory that a list reaches.
func spoil[T any](l []T, by T) {
	l = l[:cap(l)]
	for i := range l {
		l[i] = by
	}
}

func anyShares(t *testing.T, piece string, texts ...string) {
	t.Helper()
	for _, text := range texts {
		if shares(piece, text) {
			t.Errorf("%.80q stands in the memory of %.80q", piece, text)
		}
	}
}

// checkNewKills tries a call that hands Kills back, with lists that have room behind them and with such that have none.
func checkNewKills(t *testing.T, k kills, text string, call func(k kills, text string) kills) {
	t.Helper()
	for _, texts := range [][]string{withRoom(k.Texts, strings.Clone, "behind"), slices.Clip(withRoom(k.Texts, strings.Clone, "behind"))} {
		in := kills{Texts: texts, Top: k.Top}
		all := slices.Clone(texts[:cap(texts)])
		text = strings.Clone(text)
		got := call(in, text)
		want := slices.Clone(got.Texts)
		for _, x := range got.Texts {
			anyShares(t, x, append(slices.Clone(all), text)...)
		}
		spoil(got.Texts, "turned")
		if !slices.Equal(texts[:cap(texts)], all) {
			t.Errorf("%.80q: handed in %.400v, then %.400v", text, all, texts[:cap(texts)])
		}
		again := call(in, text)
		spoil(texts, "turned")
		sameKills(t, "handed back", again, kills{Texts: want, Top: got.Top})
	}
}

func TestPromise6NewKills(t *testing.T) {
	for _, k := range append(rightKills(), wrongKills()...) {
		checkNewKills(t, k, "", func(k kills, _ string) kills { return impl.KillTurn(k) })
		for _, text := range []string{"", "x", "a word", fullText, fullText + "x", "\n"} {
			for _, more := range []int64{0, 1, -1} {
				checkNewKills(t, k, text, func(k kills, text string) kills { return impl.KillPut(k, text, more) })
			}
		}
		own := kills{Texts: withRoom(k.Texts, strings.Clone, "behind"), Top: k.Top}
		anyShares(t, impl.KillTop(own), own.Texts...)
		impl.KillsRight(own)
		sameKills(t, "handed in", own, k)
	}
}

// checkNewUndos tries it with lists that have room behind them and with such that have none.
func checkNewUndos(t *testing.T, l []line, x line) {
	t.Helper()
	other := lineAt("behind", 6)
	for _, in := range [][]line{withRoom(l, cloneLine, other), slices.Clip(withRoom(l, cloneLine, other))} {
		all := slices.Clone(in[:cap(in)])
		own := cloneLine(x)
		got := impl.UndoPut(in, own)
		want := slices.Clone(got)
		for _, y := range got {
			anyShares(t, y.Text, own.Text)
			for _, z := range all {
				anyShares(t, y.Text, z.Text)
			}
		}
		spoil(got, lineAt("turned", 0))
		sameLines(t, "handed in", in[:cap(in)], all)
		again := impl.UndoPut(in, own)
		spoil(in, lineAt("turned", 0))
		sameLines(t, "handed back", again, want)
	}
}

func TestPromise6NewUndos(t *testing.T) {
	for _, l := range append(rightUndos(), wrongUndos()...) {
		xs := []line{{}, lineAt("x", 1), lineAt("one two", 0), lineAt(fullText, 60), lineAt("not right", -1)}
		if len(l) > 0 {
			xs = append(xs, l[len(l)-1])
		}
		for _, x := range xs {
			checkNewUndos(t, l, x)
		}
		impl.UndosRight(l)
	}
}
