package tests

import (
	"math"
	"math/rand"
	"slices"
	"strings"
	"testing"

	"loop.example/g00731/impl"
)

type ed = impl.Ed

type edOut = impl.EdOut

func equalEds(a ed, b ed) bool {
	return a.Line == b.Line && a.Last == b.Last && slices.Equal(a.Undos, b.Undos) && equalHists(a.Hist, b.Hist) &&
		a.Kills.Top == b.Kills.Top && slices.Equal(a.Kills.Texts, b.Kills.Texts)
}

func sameEdOut(t *testing.T, what string, got edOut, want edOut) {
	t.Helper()
	if !equalEds(got.Ed, want.Ed) || got.Bell != want.Bell || got.Done != want.Done || got.Text != want.Text || got.Code != want.Code {
		t.Errorf("%.80q: got %+.600v, want %+.600v", what, got, want)
	}
}

// refused is all that is told of what is not right.
func refused() edOut {
	return edOut{Code: impl.ErrForm}
}

func edAt(l line, last int64, undos ...line) ed {
	return ed{Line: l, Undos: undos, Last: last}
}

func withKills(e ed, top int64, texts ...string) ed {
	e.Kills = killsAt(top, texts...)
	return e
}

func withHist(e ed, h hist) ed {
	e.Hist = h
	return e
}

func withLast(e ed, last int64) ed {
	e.Last = last
	return e
}

// filledEd has something in each of its parts.
func filledEd() ed {
	return ed{
		Line: lineAt("one two", 4), Kills: killsAt(1, "kill", "two"), Undos: []line{lineAt("one", 3), {}},
		Hist: histAt(1, "kept", "long", "ago"), Last: impl.KyYank,
	}
}

func allKinds() []int64 {
	l := []int64{}
	for kind := int64(impl.KySelf); kind <= impl.KyBad; kind++ {
		l = append(l, kind)
	}
	return l
}

// keyOfKind is a right one.
func keyOfKind(kind int64) key {
	if kind == impl.KySelf {
		return selfKey('x')
	}
	return plain(kind)
}

// someEds are right, drawn from all kinds of parts; often what is on top stands just ahead, or what is noted is the line.
func someEds(size int) []ed {
	r := rand.New(rand.NewSource(9))
	lines, allKills, undos, hists := someLines(), rightKills(), rightUndos(), rightHists()
	lasts := append(slices.Repeat([]int64{impl.KySelf, impl.KyKillEnd, impl.KyKillWord, impl.KyYank, impl.KyTurn}, 6), append(allKinds(), 0)...)
	l := []ed{{}, filledEd()}
	for range size {
		e := ed{
			Line: lines[r.Intn(len(lines))], Kills: allKills[r.Intn(len(allKills))], Undos: undos[r.Intn(len(undos))],
			Hist: hists[r.Intn(len(hists))], Last: lasts[r.Intn(len(lasts))],
		}
		if top := impl.KillTop(e.Kills); len(top)+len(e.Line.Text) <= impl.MaxLine && r.Intn(2) == 0 {
			e.Line = lineAt(e.Line.Text[:e.Line.At]+top+e.Line.Text[e.Line.At:], e.Line.At+int64(len(top)))
		}
		if len(e.Undos) > 0 && r.Intn(4) == 0 {
			e.Undos = append(slices.Clone(e.Undos[1:]), lineAt(e.Line.Text, 0))
		}
		l = append(l, e)
	}
	return l
}

func wrongLasts() []int64 {
	return []int64{
		-1, -2, -25, -256, impl.KyBad + 1, impl.KyBad + 2, 255, 256, 256 + impl.KySelf, 1 << 32, 1<<32 + impl.KySelf, -1 << 32, -1<<32 + impl.KyBad,
		math.MaxInt64, math.MaxInt64 - 1, math.MinInt64, math.MinInt64 + 1,
	}
}

// wrongEds are no Eds: of each one part alone is wrong, beside empty parts, and beside filled ones.
func wrongEds() []ed {
	l := []ed{}
	for _, e := range []ed{{}, filledEd()} {
		for _, w := range wrongLines() {
			x := e
			x.Line = w
			l = append(l, x)
		}
		for _, w := range wrongKills() {
			x := e
			x.Kills = w
			l = append(l, x)
		}
		for _, w := range append(wrongUndos(), manyLines(impl.MaxList+1), make([]line, 2*impl.MaxList)) {
			x := e
			x.Undos = w
			l = append(l, x)
		}
		for _, w := range wrongHists() {
			l = append(l, withHist(e, w))
		}
		for _, w := range wrongLasts() {
			l = append(l, withLast(e, w))
		}
	}
	return l
}

func TestPromise8EdRight(t *testing.T) {
	for _, e := range someEds(2000) {
		same(t, "right", impl.EdRight(e), true)
	}
	for _, e := range wrongEds() {
		same(t, "wrong", impl.EdRight(e), false)
	}
	for _, e := range []ed{{}, filledEd()} {
		for last := int64(-300); last <= 300; last++ {
			same(t, "Last", impl.EdRight(withLast(e, last)), 0 <= last && last <= 25)
		}
		for _, l := range someLines() {
			e.Line = l
			same(t, "Line", impl.EdRight(e), true)
		}
		e.Line = line{}
		for _, k := range rightKills() {
			e.Kills = k
			same(t, "Kills", impl.EdRight(e), true)
		}
		for _, undos := range rightUndos() {
			e.Undos = undos
			same(t, "Undos", impl.EdRight(e), true)
		}
		for _, h := range rightHists() {
			same(t, "Hist", impl.EdRight(withHist(e, h)), true)
		}
	}
}

func TestPromise8EdNew(t *testing.T) {
	sameEdOut(t, "with nothing", impl.EdNew(hist{}), edOut{})
	for _, h := range rightHists() {
		got := impl.EdNew(h)
		sameEdOut(t, "with that", got, edOut{Ed: ed{Hist: h}})
		same(t, "right", impl.EdRight(got.Ed), true)
	}
	for _, h := range wrongHists() {
		sameEdOut(t, "not right", impl.EdNew(h), refused())
	}
}

// doRow is an Ed, a key, and what comes of them; Last is the key's Kind then.
type doRow struct {
	e    ed
	k    key
	want edOut
}

func does(e ed, kind int64, want ed) doRow {
	return doRow{e, keyOfKind(kind), edOut{Ed: want}}
}

func bells(e ed, kind int64) doRow {
	return doRow{e, keyOfKind(kind), edOut{Ed: e, Bell: true}}
}

func checkDo(t *testing.T, rows []doRow) {
	t.Helper()
	for _, x := range rows {
		x.want.Ed.Last = x.k.Kind
		sameEdOut(t, x.e.Line.Text, impl.EdDo(x.e, x.k), x.want)
	}
}

func TestPromise8KySelf(t *testing.T) {
	ab := lineAt("ab", 1)
	axb := lineAt("axb", 2)
	less := fullText[:impl.MaxLine-1]
	checkDo(t, []doRow{
		does(ed{}, impl.KySelf, edAt(lineAt("x", 1), 0, line{})),
		does(edAt(ab, 0), impl.KySelf, edAt(axb, 0, ab)),
		does(edAt(ab, impl.KyBad, lineAt("a", 1)), impl.KySelf, edAt(axb, 0, lineAt("a", 1), ab)),
		// Behind another KySelf the line is not noted.
		does(edAt(ab, impl.KySelf), impl.KySelf, edAt(axb, 0)),
		does(edAt(ab, impl.KySelf, lineAt("a", 1)), impl.KySelf, edAt(axb, 0, lineAt("a", 1))),
		// Nothing is noted twice in a row, wherever one stood.
		does(edAt(ab, 0, lineAt("ab", 2)), impl.KySelf, edAt(axb, 0, lineAt("ab", 2))),
		does(edAt(lineAt(less, 59), 0), impl.KySelf, edAt(lineAt(less+"x", 60), 0, lineAt(less, 59))),
		does(edAt(lineAt(less, 0), impl.KySelf), impl.KySelf, edAt(lineAt("x"+less, 1), 0)),
		bells(edAt(lineAt(fullText, 60), 0), impl.KySelf),
		bells(edAt(lineAt(fullText, 0), 0, ab), impl.KySelf),
		bells(edAt(lineAt(fullText, 30), impl.KySelf), impl.KySelf),
		{edAt(ab, 0), selfKey(' '), edOut{Ed: edAt(lineAt("a b", 2), 0, ab)}},
		{edAt(ab, 0), selfKey('~'), edOut{Ed: edAt(lineAt("a~b", 2), 0, ab)}},
	})
	for _, last := range append(allKinds(), 0) {
		want := edAt(axb, 0, ab)
		if last == impl.KySelf {
			want.Undos = nil
		}
		checkDo(t, []doRow{does(edAt(ab, last), impl.KySelf, want)})
	}
}

func TestPromise8WhereOneStands(t *testing.T) {
	x := lineAt("x", 0)
	goes := func(kind int64, text string, from int64, to int64) doRow {
		return does(edAt(lineAt(text, from), 0, x), kind, edAt(lineAt(text, to), 0, x))
	}
	stays := func(kind int64, text string, at int64) doRow { return bells(edAt(lineAt(text, at), 0, x), kind) }
	checkDo(t, []doRow{
		goes(impl.KyLeft, "ab", 2, 1), goes(impl.KyLeft, "ab", 1, 0), goes(impl.KyLeft, fullText, 60, 59),
		stays(impl.KyLeft, "ab", 0), stays(impl.KyLeft, "", 0),
		goes(impl.KyRight, "ab", 0, 1), goes(impl.KyRight, "ab", 1, 2), goes(impl.KyRight, fullText, 59, 60),
		stays(impl.KyRight, "ab", 2), stays(impl.KyRight, "", 0), stays(impl.KyRight, fullText, 60),
		// Where one stands there already, there is no bell.
		goes(impl.KyHome, "ab", 2, 0), goes(impl.KyHome, "ab", 1, 0), goes(impl.KyHome, "ab", 0, 0), goes(impl.KyHome, "", 0, 0),
		goes(impl.KyEnd, "ab", 0, 2), goes(impl.KyEnd, "ab", 1, 2), goes(impl.KyEnd, "ab", 2, 2), goes(impl.KyEnd, "", 0, 0), goes(impl.KyEnd, fullText, 1, 60),
		goes(impl.KyWordBack, "one two", 7, 4), goes(impl.KyWordBack, "one two", 6, 4), goes(impl.KyWordBack, "one two", 4, 0), goes(impl.KyWordBack, " , ", 2, 0),
		stays(impl.KyWordBack, "one two", 0), stays(impl.KyWordBack, "", 0), stays(impl.KyWordBack, " one", 0),
		goes(impl.KyWordOn, "one two", 0, 3), goes(impl.KyWordOn, "one two", 1, 3), goes(impl.KyWordOn, "one two", 3, 7), goes(impl.KyWordOn, " , ", 1, 3),
		stays(impl.KyWordOn, "one two", 7), stays(impl.KyWordOn, "", 0), stays(impl.KyWordOn, "one ", 4),
	})
}

func TestPromise8KyBackAndKyDel(t *testing.T) {
	abc := lineAt("abc", 2)
	checkDo(t, []doRow{
		does(edAt(abc, 0), impl.KyBack, edAt(lineAt("ac", 1), 0, abc)),
		does(edAt(lineAt("a", 1), 0), impl.KyBack, edAt(line{}, 0, lineAt("a", 1))),
		does(edAt(lineAt(fullText, 60), 0), impl.KyBack, edAt(lineAt(fullText[:59], 59), 0, lineAt(fullText, 60))),
		does(edAt(abc, 0), impl.KyDel, edAt(lineAt("ab", 2), 0, abc)),
		does(edAt(lineAt("a", 0), 0), impl.KyDel, edAt(line{}, 0, lineAt("a", 0))),
		does(edAt(lineAt(fullText, 0), 0), impl.KyDel, edAt(lineAt(fullText[1:], 0), 0, lineAt(fullText, 0))),
		// The line is noted each time, but not where it is what was noted last.
		does(edAt(abc, impl.KyBack, lineAt("abcd", 3)), impl.KyBack, edAt(lineAt("ac", 1), 0, lineAt("abcd", 3), abc)),
		does(edAt(abc, impl.KyDel, lineAt("abc", 0)), impl.KyDel, edAt(lineAt("ab", 2), 0, lineAt("abc", 0))),
		bells(ed{}, impl.KyBack), bells(edAt(lineAt("abc", 0), 0, abc), impl.KyBack), bells(edAt(lineAt(fullText, 0), impl.KyBack), impl.KyBack),
		bells(ed{}, impl.KyDel), bells(edAt(lineAt("abc", 3), 0, abc), impl.KyDel), bells(edAt(lineAt(fullText, 60), impl.KyDel), impl.KyDel),
	})
}

func TestPromise8KyKillEnd(t *testing.T) {
	abc := lineAt("abc", 1)
	a := edAt(lineAt("a", 1), 0, abc)
	five := manyTexts(impl.MaxKills)
	checkDo(t, []doRow{
		does(edAt(abc, 0), impl.KyKillEnd, withKills(a, 0, "bc")),
		does(edAt(lineAt("abc", 0), 0), impl.KyKillEnd, withKills(edAt(line{}, 0, lineAt("abc", 0)), 0, "abc")),
		does(withKills(edAt(abc, 0), 0, "x", "y"), impl.KyKillEnd, withKills(a, 2, "x", "y", "bc")),
		// Behind such a key it goes on from the last one of the Kills, wherever Top was.
		does(edAt(abc, impl.KyKillEnd), impl.KyKillEnd, withKills(a, 0, "bc")),
		does(withKills(edAt(abc, impl.KyKillEnd), 0, "x"), impl.KyKillEnd, withKills(a, 0, "xbc")),
		does(withKills(edAt(abc, impl.KyKillEnd), 0, "x", "y"), impl.KyKillEnd, withKills(a, 1, "x", "ybc")),
		does(withKills(edAt(abc, impl.KyKillWord), 0, "x"), impl.KyKillEnd, withKills(a, 1, "x", "bc")),
		does(withKills(edAt(abc, impl.KyHome), 0, "x"), impl.KyKillEnd, withKills(a, 1, "x", "bc")),
		does(withKills(edAt(abc, 0), 2, five...), impl.KyKillEnd, withKills(a, 4, five[1], five[2], five[3], five[4], "bc")),
		does(withKills(edAt(abc, impl.KyKillEnd), 2, five...), impl.KyKillEnd, withKills(a, 4, five[0], five[1], five[2], five[3], five[4]+"bc")),
		// Both together are no right text.
		does(withKills(edAt(abc, impl.KyKillEnd), 0, fullText[:58]), impl.KyKillEnd, withKills(a, 0, fullText[:58]+"bc")),
		does(withKills(edAt(abc, impl.KyKillEnd), 0, fullText[:59]), impl.KyKillEnd, withKills(a, 1, fullText[:59], "bc")),
		bells(ed{}, impl.KyKillEnd), bells(edAt(lineAt("abc", 3), 0), impl.KyKillEnd),
		bells(withKills(edAt(lineAt("abc", 3), impl.KyKillEnd, abc), 0, "x", "y"), impl.KyKillEnd),
	})
}

func TestPromise8KyKillWord(t *testing.T) {
	two := lineAt("one two", 7)
	one := edAt(lineAt("one ", 4), 0, two)
	five := manyTexts(impl.MaxKills)
	checkDo(t, []doRow{
		does(edAt(two, 0), impl.KyKillWord, withKills(one, 0, "two")),
		does(edAt(lineAt("one two", 5), 0), impl.KyKillWord, withKills(edAt(lineAt("one wo", 4), 0, lineAt("one two", 5)), 0, "t")),
		does(edAt(lineAt("one two", 4), 0), impl.KyKillWord, withKills(edAt(lineAt("two", 0), 0, lineAt("one two", 4)), 0, "one ")),
		does(edAt(lineAt("...", 2), 0), impl.KyKillWord, withKills(edAt(lineAt(".", 0), 0, lineAt("...", 2)), 0, "..")),
		does(withKills(edAt(two, 0), 0, "x", "y"), impl.KyKillWord, withKills(one, 2, "x", "y", "two")),
		// Behind such a key it goes ahead of the last one of the Kills, wherever Top was.
		does(edAt(two, impl.KyKillWord), impl.KyKillWord, withKills(one, 0, "two")),
		does(withKills(edAt(two, impl.KyKillWord), 0, "x"), impl.KyKillWord, withKills(one, 0, "twox")),
		does(withKills(edAt(two, impl.KyKillWord), 0, "x", "y"), impl.KyKillWord, withKills(one, 1, "x", "twoy")),
		does(withKills(edAt(two, impl.KyKillEnd), 0, "x"), impl.KyKillWord, withKills(one, 1, "x", "two")),
		does(withKills(edAt(two, impl.KyEnd), 0, "x"), impl.KyKillWord, withKills(one, 1, "x", "two")),
		does(withKills(edAt(two, 0), 0, five...), impl.KyKillWord, withKills(one, 4, five[1], five[2], five[3], five[4], "two")),
		does(withKills(edAt(two, impl.KyKillWord), 0, five...), impl.KyKillWord, withKills(one, 4, five[0], five[1], five[2], five[3], "two"+five[4])),
		// Both together are no right text.
		does(withKills(edAt(two, impl.KyKillWord), 0, fullText[:57]), impl.KyKillWord, withKills(one, 0, "two"+fullText[:57])),
		does(withKills(edAt(two, impl.KyKillWord), 0, fullText[:58]), impl.KyKillWord, withKills(one, 1, fullText[:58], "two")),
		bells(ed{}, impl.KyKillWord), bells(edAt(lineAt("abc", 0), 0), impl.KyKillWord),
		bells(withKills(edAt(lineAt("abc", 0), impl.KyKillWord, two), 0, "x", "y"), impl.KyKillWord),
	})
}

func TestPromise8KyYank(t *testing.T) {
	ab := lineAt("ab", 1)
	checkDo(t, []doRow{
		bells(ed{}, impl.KyYank), bells(edAt(ab, impl.KyYank, lineAt("a", 1)), impl.KyYank),
		does(withKills(ed{}, 0, "one"), impl.KyYank, withKills(edAt(lineAt("one", 3), 0, line{}), 0, "one")),
		does(withKills(edAt(ab, 0), 0, "one", "two"), impl.KyYank, withKills(edAt(lineAt("aoneb", 4), 0, ab), 0, "one", "two")),
		does(withKills(edAt(ab, impl.KyYank), 1, "one", "two"), impl.KyYank, withKills(edAt(lineAt("atwob", 4), 0, ab), 1, "one", "two")),
		does(withKills(ed{}, 0, fullText), impl.KyYank, withKills(edAt(lineAt(fullText, 60), 0, line{}), 0, fullText)),
		// Just room, and no room.
		does(withKills(edAt(ab, 0), 0, fullText[:58]), impl.KyYank, withKills(edAt(lineAt("a"+fullText[:58]+"b", 59), 0, ab), 0, fullText[:58])),
		bells(withKills(edAt(ab, 0), 0, fullText[:59]), impl.KyYank),
		bells(withKills(edAt(lineAt("a", 0), 0, ab), 0, fullText), impl.KyYank),
		bells(withKills(edAt(lineAt(fullText, 7), 0), 1, "one", "x"), impl.KyYank),
	})
}

func TestPromise8KyTurn(t *testing.T) {
	l, two := lineAt("atwob", 4), lineAt("two", 3)
	e := withKills(edAt(l, impl.KyYank), 1, "one", "two", "six")
	one := withKills(edAt(lineAt("aoneb", 4), 0, l), 0, "one", "two", "six")
	long := lineAt(fullText[:56]+"ab", 58)
	rows := []doRow{
		does(e, impl.KyTurn, one), does(withLast(e, impl.KyTurn), impl.KyTurn, one),
		// From the first one on it is the last one.
		does(withKills(edAt(two, impl.KyTurn), 0, "two", "x", "y"), impl.KyTurn, withKills(edAt(lineAt("y", 1), 0, two), 2, "two", "x", "y")),
		does(withKills(edAt(two, impl.KyTurn), 1, "three", "two"), impl.KyTurn, withKills(edAt(lineAt("three", 5), 0, two), 0, "three", "two")),
		// With one alone the line is as it was, but noted.
		does(withKills(edAt(two, impl.KyYank), 0, "two"), impl.KyTurn, withKills(edAt(two, 0, two), 0, "two")),
		does(withKills(edAt(two, impl.KyYank, lineAt("two", 0)), 0, "two"), impl.KyTurn, withKills(edAt(two, 0, lineAt("two", 0)), 0, "two")),
		does(withKills(edAt(lineAt(fullText, 60), impl.KyYank), 1, "x", fullText), impl.KyTurn, withKills(edAt(lineAt("x", 1), 0, lineAt(fullText, 60)), 0, "x", fullText)),
		// There are no Kills.
		bells(edAt(line{}, impl.KyYank), impl.KyTurn), bells(edAt(l, impl.KyYank), impl.KyTurn), bells(edAt(l, impl.KyTurn, l), impl.KyTurn),
		// What is on top stands elsewhere, or nowhere.
		bells(withKills(edAt(lineAt("atwob", 3), impl.KyYank), 0, "two", "x"), impl.KyTurn),
		bells(withKills(edAt(lineAt("atwob", 5), impl.KyYank), 0, "two", "x"), impl.KyTurn),
		bells(withKills(edAt(lineAt("atwob", 1), impl.KyTurn), 0, "two", "x"), impl.KyTurn),
		bells(withKills(edAt(lineAt("two", 0), impl.KyYank), 0, "two", "x"), impl.KyTurn),
		bells(withKills(edAt(lineAt("wo", 2), impl.KyYank), 0, "two", "x"), impl.KyTurn),
		bells(withKills(edAt(lineAt("Two", 3), impl.KyYank), 0, "two", "x"), impl.KyTurn),
		bells(withKills(edAt(two, impl.KyYank), 1, "two", "x"), impl.KyTurn),
		bells(withKills(ed{Last: impl.KyYank}, 0, "two", "x"), impl.KyTurn),
		// Just room for the other one, and no room.
		does(withKills(edAt(long, impl.KyYank), 1, "abcd", "ab"), impl.KyTurn, withKills(edAt(lineAt(fullText[:56]+"abcd", 60), 0, long), 0, "abcd", "ab")),
		bells(withKills(edAt(long, impl.KyYank), 1, "abcde", "ab"), impl.KyTurn),
		bells(withKills(edAt(long, impl.KyTurn, l), 0, "ab", fullText), impl.KyTurn),
	}
	for _, last := range append(allKinds(), 0) {
		if last != impl.KyYank && last != impl.KyTurn {
			rows = append(rows, bells(withLast(e, last), impl.KyTurn))
		}
	}
	checkDo(t, rows)
}

func TestPromise8KyUndo(t *testing.T) {
	a, b := lineAt("a", 1), lineAt("b", 0)
	many := manyLines(impl.MaxUndos)
	checkDo(t, []doRow{
		bells(ed{}, impl.KyUndo), bells(edAt(a, impl.KyUndo), impl.KyUndo),
		does(edAt(line{}, 0, a), impl.KyUndo, edAt(a, 0)),
		does(edAt(line{}, impl.KyUndo, a, b), impl.KyUndo, edAt(b, 0, a)),
		does(edAt(a, 0, b, lineAt("a", 0)), impl.KyUndo, edAt(lineAt("a", 0), 0, b)),
		does(edAt(a, 0, b, a, line{}), impl.KyUndo, edAt(line{}, 0, b, a)),
		does(edAt(a, 0, many...), impl.KyUndo, edAt(many[19], 0, many[:19]...)),
	})
}

func TestPromise8KySwapAndCases(t *testing.T) {
	noted := func(kind int64, text string, from int64, to int64) doRow {
		return does(edAt(lineAt(text, from), 0), kind, edAt(lineAt(text, to), 0, lineAt(text, from)))
	}
	checkDo(t, []doRow{
		does(edAt(lineAt("abc", 1), 0), impl.KySwap, edAt(lineAt("bac", 2), 0, lineAt("abc", 1))),
		does(edAt(lineAt("abc", 3), 0), impl.KySwap, edAt(lineAt("acb", 3), 0, lineAt("abc", 3))),
		bells(ed{}, impl.KySwap), bells(edAt(lineAt("a", 0), 0), impl.KySwap), bells(edAt(lineAt("a", 1), 0), impl.KySwap),
		bells(edAt(lineAt("ab", 0), impl.KySwap, lineAt("ba", 2)), impl.KySwap),
		does(edAt(lineAt("one two", 0), 0), impl.KyUpper, edAt(lineAt("ONE two", 3), 0, lineAt("one two", 0))),
		does(edAt(lineAt("one two", 3), 0), impl.KyUpper, edAt(lineAt("one TWO", 7), 0, lineAt("one two", 3))),
		does(edAt(lineAt("ONE TWO", 1), 0), impl.KyLower, edAt(lineAt("One TWO", 3), 0, lineAt("ONE TWO", 1))),
		bells(ed{}, impl.KyUpper), bells(edAt(lineAt("one", 3), 0, line{}), impl.KyUpper),
		bells(ed{}, impl.KyLower), bells(edAt(lineAt("ONE", 3), 0, line{}), impl.KyLower),
		// Where the text stays as it is, no code is told: the line is noted all the same.
		noted(impl.KySwap, "aa", 1, 2), noted(impl.KySwap, "aa", 2, 2),
		noted(impl.KyUpper, "ONE two", 0, 3), noted(impl.KyUpper, "4, --", 1, 5), noted(impl.KyLower, "one TWO", 1, 3), noted(impl.KyLower, "--", 0, 2),
	})
}

func TestPromise8KyUpAndKyDown(t *testing.T) {
	now := lineAt("now", 1)
	long := func(at int64, kept string) hist { return histAt(at, kept, "long", "ago") }
	of := func(l line, h hist, undos ...line) ed { return withHist(edAt(l, 0, undos...), h) }
	checkDo(t, []doRow{
		does(of(now, long(2, "")), impl.KyUp, of(lineAt("ago", 3), long(1, "now"), now)),
		does(of(now, long(2, "kept")), impl.KyUp, of(lineAt("ago", 3), long(1, "now"), now)),
		does(of(now, long(1, "kept")), impl.KyUp, of(lineAt("long", 4), long(0, "kept"), now)),
		does(of(line{}, long(2, "kept")), impl.KyUp, of(lineAt("ago", 3), long(1, ""), line{})),
		bells(of(now, long(0, "kept"), now), impl.KyUp), bells(of(now, hist{}), impl.KyUp), bells(of(now, histAt(0, "kept")), impl.KyUp),
		does(of(now, long(0, "kept")), impl.KyDown, of(lineAt("ago", 3), long(1, "kept"), now)),
		does(of(now, long(1, "kept")), impl.KyDown, of(lineAt("kept", 4), long(2, "kept"), now)),
		does(of(now, long(1, "")), impl.KyDown, of(line{}, long(2, ""), now)),
		bells(of(now, long(2, "kept"), now), impl.KyDown), bells(of(now, hist{}), impl.KyDown), bells(of(now, histAt(0, "kept")), impl.KyDown),
		// The line that is there may be the one that was: nothing is noted twice in a row.
		does(of(lineAt("ago", 0), long(2, "")), impl.KyUp, of(lineAt("ago", 3), long(1, "ago"), lineAt("ago", 0))),
		does(of(now, long(2, ""), lineAt("now", 3)), impl.KyUp, of(lineAt("ago", 3), long(1, "now"), lineAt("now", 3))),
	})
}

func TestPromise8KyEnter(t *testing.T) {
	many := manyTexts(impl.MaxHist)
	rows := []doRow{}
	entered := func(e ed, h hist) {
		rows = append(rows, doRow{e, plain(impl.KyEnter), edOut{Ed: ed{Kills: e.Kills, Hist: h}, Done: true, Text: e.Line.Text}})
	}
	entered(ed{}, hist{})
	entered(edAt(lineAt("one", 1), 0, line{}), atEnd("one"))
	entered(edAt(lineAt(fullText, 0), impl.KyEnter), atEnd(fullText))
	entered(withKills(edAt(lineAt("one", 3), 0, manyLines(impl.MaxUndos)...), 1, "x", "y"), atEnd("one"))
	// An empty line is done, but not put in.
	entered(withHist(edAt(line{}, 0, lineAt("one", 3)), atEnd("long")), atEnd("long"))
	entered(withHist(ed{}, histAt(0, "kept", "long", "ago")), atEnd("long", "ago"))
	// So is one that is as the last one.
	entered(withHist(edAt(lineAt("ago", 0), 0), atEnd("long", "ago")), atEnd("long", "ago"))
	entered(withHist(edAt(lineAt("long", 0), 0), histAt(0, "kept", "long", "ago")), atEnd("long", "ago", "long"))
	entered(withHist(edAt(lineAt("kept", 4), 0), histAt(1, "kept", "long", "ago")), atEnd("long", "ago", "kept"))
	entered(withHist(edAt(lineAt("one", 3), 0), atEnd(many...)), atEnd(append(slices.Clone(many[1:]), "one")...))
	entered(withHist(edAt(lineAt(many[11], 0), 0), histAt(0, "kept", many...)), atEnd(many...))
	checkDo(t, rows)
}

func TestPromise8KyAbort(t *testing.T) {
	for _, h := range rightHists() {
		for _, e := range []ed{{}, withKills(edAt(lineAt("one", 1), impl.KyUp, line{}, lineAt("o", 1)), 0, "x", "y"), edAt(lineAt(fullText, 60), impl.KyAbort)} {
			want := ed{Kills: e.Kills, Hist: atEnd(h.Lines...)}
			checkDo(t, []doRow{{withHist(e, h), plain(impl.KyAbort), edOut{Ed: want, Bell: true}}})
		}
	}
}

func TestPromise8KeysThatTurnNothing(t *testing.T) {
	for _, e := range someEds(100) {
		for _, kind := range []int64{impl.KySayChar, impl.KySayWord, impl.KySayLine} {
			checkDo(t, []doRow{does(e, kind, e)})
		}
		for b := range 256 {
			checkDo(t, []doRow{{e, badKey(byte(b)), edOut{Ed: e, Bell: true}}})
		}
	}
}

// turnByDocument is l instead of the line, which is noted.
func turnByDocument(e ed, l line) ed {
	if last := len(e.Undos) - 1; last < 0 || e.Undos[last].Text != e.Line.Text {
		undos := append(slices.Clone(e.Undos), e.Line)
		e.Undos = undos[max(0, len(undos)-impl.MaxUndos):]
	}
	e.Line = l
	return e
}

// instead is the line with t where something from one place to another one stood, and one stands behind it.
func instead(l line, from int64, to int64, t string) line {
	return lineAt(l.Text[:from]+t+l.Text[to:], from+int64(len(t)))
}

func topByDocument(k kills) string {
	if len(k.Texts) == 0 {
		return ""
	}
	return k.Texts[k.Top]
}

func eraseByDocument(e ed, from int64, to int64) (ed, bool) {
	if from < 0 || to > int64(len(e.Line.Text)) || from == to {
		return e, false
	}
	return turnByDocument(e, instead(e.Line, from, to, "")), true
}

func killByDocument(e ed, kind int64, from int64, to int64, more int64) (ed, bool) {
	gone := e.Line.Text[from:to]
	if e.Last != kind {
		more = 0
	}
	e.Kills = killPutByDocument(e.Kills, gone, more)
	return eraseByDocument(e, from, to)
}

func yankByDocument(e ed) (ed, bool) {
	top := topByDocument(e.Kills)
	l := instead(e.Line, e.Line.At, e.Line.At, top)
	return turnByDocument(e, l), top != "" && len(l.Text) <= impl.MaxLine
}

func turnKillsByDocument(e ed) (ed, bool) {
	many := int64(len(e.Kills.Texts))
	top := topByDocument(e.Kills)
	from := e.Line.At - int64(len(top))
	if e.Last != impl.KyYank && e.Last != impl.KyTurn || many == 0 || from < 0 || e.Line.Text[from:e.Line.At] != top {
		return e, false
	}
	e.Kills.Top = (e.Kills.Top + many - 1) % many
	l := instead(e.Line, from, e.Line.At, topByDocument(e.Kills))
	return turnByDocument(e, l), len(l.Text) <= impl.MaxLine
}

func selfByDocument(e ed, b int64) (ed, bool) {
	l := instead(e.Line, e.Line.At, e.Line.At, string(rune(b)))
	if e.Last == impl.KySelf {
		e.Line = l
		return e, len(l.Text) <= impl.MaxLine
	}
	return turnByDocument(e, l), len(l.Text) <= impl.MaxLine
}

func goByDocument(e ed, to int64) (ed, bool) {
	from := e.Line.At
	e.Line.At = to
	return e, to != from && 0 <= to && to <= int64(len(e.Line.Text))
}

func swapByDocument(e ed) (ed, bool) {
	size := int64(len(e.Line.Text))
	at := min(e.Line.At, size-1)
	if size < 2 || at == 0 {
		return e, false
	}
	return turnByDocument(e, instead(e.Line, at-1, at+1, e.Line.Text[at:at+1]+e.Line.Text[at-1:at])), true
}

func caseByDocument(e ed, cased func(string) string) (ed, bool) {
	from, to := e.Line.At, wordOnByDocument(e.Line)
	return turnByDocument(e, instead(e.Line, from, to, cased(e.Line.Text[from:to]))), from != to
}

func histByDocument(e ed, step int64) (ed, bool) {
	out := wayByDocument(e.Hist, e.Line.Text, step)
	e = turnByDocument(e, lineAt(out.Text, int64(len(out.Text))))
	e.Hist = out.Hist
	return e, out.Code == impl.OK
}

// textByDocument tells of a right Ed and a key what the key turns, or no: for such keys as can turn the text of a line.
func textByDocument(e ed, k key) (ed, bool) {
	l := e.Line
	size := int64(len(l.Text))
	switch k.Kind {
	case impl.KySelf:
		return selfByDocument(e, k.Byte)
	case impl.KyBack:
		return eraseByDocument(e, l.At-1, l.At)
	case impl.KyDel:
		return eraseByDocument(e, l.At, l.At+1)
	case impl.KyKillEnd:
		return killByDocument(e, k.Kind, l.At, size, 1)
	case impl.KyKillWord:
		return killByDocument(e, k.Kind, wordBackByDocument(l), l.At, -1)
	case impl.KyYank:
		return yankByDocument(e)
	case impl.KyTurn:
		return turnKillsByDocument(e)
	case impl.KySwap:
		return swapByDocument(e)
	case impl.KyUpper:
		return caseByDocument(e, strings.ToUpper)
	case impl.KyLower:
		return caseByDocument(e, strings.ToLower)
	case impl.KyUp:
		return histByDocument(e, -1)
	case impl.KyDown:
		return histByDocument(e, 1)
	}
	return e, false
}

// edByDocument goes sentence by sentence for a right Ed and a right key.
func edByDocument(e ed, k key) edOut {
	l, now, turns := e.Line, e, true
	out := edOut{}
	switch k.Kind {
	case impl.KyLeft:
		now, turns = goByDocument(e, l.At-1)
	case impl.KyRight:
		now, turns = goByDocument(e, l.At+1)
	case impl.KyHome:
		now.Line.At = 0
	case impl.KyEnd:
		now.Line.At = int64(len(l.Text))
	case impl.KyWordBack:
		now, turns = goByDocument(e, wordBackByDocument(l))
	case impl.KyWordOn:
		now, turns = goByDocument(e, wordOnByDocument(l))
	case impl.KyUndo:
		if turns = len(e.Undos) > 0; turns {
			now.Line, now.Undos = e.Undos[len(e.Undos)-1], e.Undos[:len(e.Undos)-1]
		}
	case impl.KyEnter:
		now = ed{Kills: e.Kills, Hist: histPutByDocument(e.Hist, l.Text)}
		out.Done, out.Text = true, l.Text
	case impl.KyAbort:
		now = ed{Kills: e.Kills, Hist: atEnd(e.Hist.Lines...)}
		out.Bell = true
	case impl.KySayChar, impl.KySayWord, impl.KySayLine:
	default:
		now, turns = textByDocument(e, k)
	}
	if !turns {
		now, out.Bell = e, true
	}
	now.Last = k.Kind
	out.Ed = now
	return out
}

// checkKey tells what came of it, too.
func checkKey(t *testing.T, e ed, k key) edOut {
	t.Helper()
	got := impl.EdDo(e, k)
	sameEdOut(t, e.Line.Text, got, edByDocument(e, k))
	same(t, "right", impl.EdRight(got.Ed), true)
	return got
}

func TestPromise8EdDoOfAllKinds(t *testing.T) {
	for i, e := range someEds(6000) {
		for _, kind := range allKinds() {
			got := checkKey(t, e, keyOfKind(kind))
			if got.Bell && kind != impl.KyAbort {
				same(t, "what rings turns nothing", equalEds(withLast(got.Ed, e.Last), e), true)
			}
			same(t, "the last key", got.Ed.Last, kind)
			same(t, "done", got.Done, kind == impl.KyEnter)
		}
		if i%100 == 0 {
			for _, k := range rightKeys() {
				checkKey(t, e, k)
			}
		}
	}
}

// TestPromise8EachPlaceOfALine has each key wherever one stands, behind each other key.
func TestPromise8EachPlaceOfALine(t *testing.T) {
	for _, text := range []string{"", "a", "x one", "one, two  Three", fullText} {
		for _, l := range placesOf(text) {
			for _, last := range append(allKinds(), 0) {
				e := withHist(withKills(edAt(l, last, lineAt(text, 0)), 1, "two", "one", "x"), histAt(1, "kept", "long", "ago"))
				for _, kind := range allKinds() {
					checkKey(t, e, keyOfKind(kind))
				}
			}
		}
	}
}

// TestPromise8WhatTurnedTheTextIsUndone leaves out what begins a new line, and what goes on from what was noted ahead.
func TestPromise8WhatTurnedTheTextIsUndone(t *testing.T) {
	for _, e := range someEds(6000) {
		for _, kind := range allKinds() {
			got := impl.EdDo(e, keyOfKind(kind))
			if got.Ed.Line.Text == e.Line.Text || kind == impl.KyEnter || kind == impl.KyAbort || kind == impl.KyUndo || kind == impl.KySelf && e.Last == kind {
				continue
			}
			last := len(e.Undos) - 1
			noted := last >= 0 && e.Undos[last].Text == e.Line.Text
			back := impl.EdDo(got.Ed, plain(impl.KyUndo))
			same(t, "no bell", back.Bell, false)
			same(t, "the text as it was", back.Ed.Line.Text, e.Line.Text)
			same(t, "the line as it was", back.Ed.Line == e.Line || noted, true)
			if !noted {
				sameLines(t, "what was noted ahead", back.Ed.Undos, e.Undos[max(0, len(e.Undos)-impl.MaxUndos+1):])
			}
		}
	}
}

func TestPromise8AllKeysOfARowAreUndoneAtOnce(t *testing.T) {
	for _, e := range someEds(500) {
		if e.Last == impl.KySelf {
			continue
		}
		typed := e
		for i := range impl.MaxLine + 2 {
			got := impl.EdDo(typed, selfKey(byte('a'+i%26)))
			same(t, "full", got.Bell, len(typed.Line.Text) == impl.MaxLine)
			typed = got.Ed
		}
		if len(e.Line.Text) < impl.MaxLine {
			same(t, "undone", impl.EdDo(typed, plain(impl.KyUndo)).Ed.Line.Text, e.Line.Text)
		}
	}
}

func TestPromise8UndoneAsOftenAsThereAre(t *testing.T) {
	for size := range impl.MaxUndos + 6 {
		// Each line is noted, for a key that puts nothing in is between.
		e := ed{}
		texts := []string{}
		for i := range size {
			texts = append(texts, e.Line.Text)
			e = impl.EdAll(e, []key{selfKey(byte('a' + i)), plain(impl.KySayChar)}).Ed
		}
		same(t, "as many as are kept", len(e.Undos), min(size, impl.MaxUndos))
		for back := range min(size, impl.MaxUndos) {
			out := impl.EdDo(e, plain(impl.KyUndo))
			same(t, "undone", out.Ed.Line, lineAt(texts[size-1-back], int64(size-1-back)))
			same(t, "no bell", out.Bell, false)
			e = out.Ed
		}
		sameEdOut(t, "no more", impl.EdDo(e, plain(impl.KyUndo)), edOut{Ed: withLast(e, impl.KyUndo), Bell: true})
	}
}

func TestPromise8EdDoOfWhatIsNotRight(t *testing.T) {
	for _, e := range wrongEds() {
		for _, kind := range allKinds() {
			sameEdOut(t, "Ed not right", impl.EdDo(e, keyOfKind(kind)), refused())
		}
		for _, k := range []key{{}, {Kind: impl.KySelf}, {Kind: impl.KyLeft, Byte: 1}, {Kind: impl.KyBad, Byte: 256}, {Kind: 26}, {Kind: -1}} {
			sameEdOut(t, "neither right", impl.EdDo(e, k), refused())
		}
	}
	for _, e := range someEds(50) {
		for _, k := range wrongKeys() {
			sameEdOut(t, "key not right", impl.EdDo(e, k), refused())
		}
		for kind := int64(-2); kind <= 28; kind++ {
			for _, b := range []int64{-1, 0, 1, 31, 32, 126, 127, 255, 256} {
				k := key{Kind: kind, Byte: b}
				if slices.Contains(rightKeys(), k) {
					checkKey(t, e, k)
				} else {
					sameEdOut(t, "key not right", impl.EdDo(e, k), refused())
				}
			}
		}
	}
}

// someKeys are right ones of all kinds, those that put something in more often than the others.
func someKeys(r *rand.Rand, size int) []key {
	l := []key{}
	for range size {
		kind := int64(r.Intn(3*impl.KyBad) + 1)
		switch {
		case kind < impl.KyBad:
			l = append(l, keyOfKind(kind))
		case kind == impl.KyBad:
			l = append(l, badKey(byte(r.Intn(256))))
		default:
			l = append(l, selfKey("ab Cd,E "[r.Intn(8)]))
		}
	}
	return l
}

// allByDocument is one key after the other.
func allByDocument(e ed, l []key) edOut {
	out := edOut{Ed: e}
	for _, k := range l {
		out = edByDocument(out.Ed, k)
	}
	return out
}

// TestPromise8InARow looks behind each key.
func TestPromise8InARow(t *testing.T) {
	r := rand.New(rand.NewSource(10))
	for range 100 {
		e := ed{}
		for _, k := range someKeys(r, impl.MaxList) {
			e = checkKey(t, e, k).Ed
		}
	}
}

func TestPromise8WhatComesOfBytes(t *testing.T) {
	killed := "one, two three"
	for _, x := range []struct {
		bytes string
		want  line
		kills []string
	}{
		{killed + "\x17\x17\x17", line{}, []string{killed}},
		{killed + "\x17\x02\x17", lineAt("one,  ", 5), []string{"three", "two"}},
		{killed + "\x17\x05\x17", lineAt("one, ", 5), []string{"three", "two "}},
		// A key that rings is a key between, too.
		{killed + "\x17\x00\x17", lineAt("one, ", 5), []string{"three", "two "}},
		{killed + "\x17\x04\x17", lineAt("one, ", 5), []string{"three", "two "}},
		{killed + "\x01\x17\x05\x17", lineAt("one, two ", 9), []string{"three"}},
		{killed + "\x01\x0b\x0b", line{}, []string{killed}},
		{killed + "\x1bb\x0b\x0b\x02\x0b", lineAt("one, two", 8), []string{"three", " "}},
		{killed + "\x17\x0b\x17", lineAt("one, ", 5), []string{"three", "two "}},
		{killed + "\x1bb\x0b\x17", lineAt("one, ", 5), []string{"three", "two "}},
		{"a b\x17\x00\x17\x19\x1by\x1by", lineAt("a ", 2), []string{"b", "a "}},
		{"a b\x17\x00\x17\x19\x1by\x1by\x1by", lineAt("b", 1), []string{"b", "a "}},
		// What is on top is what was turned to, until something is killed.
		{"a b\x17\x00\x17\x19\x1by\x19", lineAt("bb", 2), []string{"b", "a "}},
		{"a b\x17\x00\x17\x19\x1by\x00\x1by", lineAt("b", 1), []string{"b", "a "}},
		{"a b\x17\x00\x17\x19\x02\x06\x1by", lineAt("a ", 2), []string{"b", "a "}},
		// A yank that rings comes ahead, too: what is on top stands there.
		{strings.Repeat("ab ", 20) + "\x17\x19" + "\x19\x1by", lineAt(strings.Repeat("ab ", 20), 60), []string{"ab "}},
		{"ab\x1f", line{}, nil}, {"ab\x02c\x1f", lineAt("ab", 1), nil}, {"ab\x02c\x1f\x1f", line{}, nil}, {"ab\x02c\x1f\x1f\x1f", line{}, nil},
		{"ab\x00c\x1f", lineAt("ab", 2), nil}, {"ab\x1fc\x1f", line{}, nil},
		{"one\rtwo\r\x10\x10\x1f", lineAt("two", 3), nil}, {"one\rtwo\r\x10\x10\x1f\x1f", line{}, nil},
		{"one\rtwo\rx\x10\x10\x0e\x0e", lineAt("x", 1), nil}, {"one\rtwo\rx\x10\x10\x03\x10", lineAt("two", 3), nil},
		{"one\rtwo\x03\x1f\x10", lineAt("one", 3), nil}, {"one\r\x1f", line{}, nil},
	} {
		got := impl.EdAll(ed{}, impl.KeysOf(x.bytes)).Ed
		same(t, x.bytes, got.Line, x.want)
		same(t, x.bytes, slices.Equal(got.Kills.Texts, x.kills), true)
	}
}

func TestPromise8EdAll(t *testing.T) {
	r := rand.New(rand.NewSource(11))
	for i, e := range someEds(300) {
		sameEdOut(t, "no key", impl.EdAll(e, nil), edOut{Ed: e})
		sameEdOut(t, "no key", impl.EdAll(e, []key{}), edOut{Ed: e})
		for _, kind := range allKinds() {
			k := keyOfKind(kind)
			sameEdOut(t, "one key", impl.EdAll(e, []key{k}), impl.EdDo(e, k))
		}
		for _, size := range []int{2, 3, 10 + i%80} {
			l := someKeys(r, size)
			sameEdOut(t, "many keys", impl.EdAll(e, l), allByDocument(e, l))
		}
	}
	for _, e := range someEds(40) {
		for _, size := range []int{impl.MaxList - 1, impl.MaxList} {
			l := someKeys(r, size)
			sameEdOut(t, "as many as can be", impl.EdAll(e, l), allByDocument(e, l))
		}
		sameEdOut(t, "one more", impl.EdAll(e, someKeys(r, impl.MaxList+1)), refused())
		sameEdOut(t, "many more", impl.EdAll(e, someKeys(r, 3*impl.MaxList)), refused())
	}
}

// TestPromise8EdAllTellsTheLastOne has a key behind one that rings, or is done.
func TestPromise8EdAllTellsTheLastOne(t *testing.T) {
	one := edAt(lineAt("one", 3), 0)
	enter, bad, say := plain(impl.KyEnter), badKey(0), plain(impl.KySayLine)
	empty := edAt(line{}, 0)
	empty.Hist = atEnd("one")
	for _, x := range []struct {
		l    []key
		want edOut
	}{
		{[]key{bad}, edOut{Ed: one, Bell: true}}, {[]key{bad, say}, edOut{Ed: one}}, {[]key{say, bad}, edOut{Ed: one, Bell: true}},
		{[]key{enter}, edOut{Ed: empty, Done: true, Text: "one"}}, {[]key{enter, say}, edOut{Ed: empty}},
		{[]key{enter, bad}, edOut{Ed: empty, Bell: true}}, {[]key{bad, enter}, edOut{Ed: empty, Done: true, Text: "one"}},
		{[]key{enter, enter}, edOut{Ed: empty, Done: true}}, {[]key{plain(impl.KyAbort), enter}, edOut{Done: true}},
		{[]key{enter, plain(impl.KyAbort)}, edOut{Ed: empty, Bell: true}},
	} {
		x.want.Ed.Last = x.l[len(x.l)-1].Kind
		sameEdOut(t, "the last one", impl.EdAll(one, x.l), x.want)
	}
}

func TestPromise8EdAllOfWhatIsNotRight(t *testing.T) {
	r := rand.New(rand.NewSource(12))
	few, many, more := someKeys(r, 3), someKeys(r, impl.MaxList), someKeys(r, impl.MaxList+1)
	for _, e := range wrongEds() {
		for _, l := range [][]key{nil, few, many, more, {{}}, {{Kind: impl.KyLeft, Byte: 1}}} {
			sameEdOut(t, "Ed not right", impl.EdAll(e, l), refused())
		}
	}
	for _, e := range []ed{{}, filledEd()} {
		for _, w := range wrongKeys() {
			for _, l := range [][]key{few, many} {
				for _, place := range []int{0, len(l) / 2, len(l) - 1} {
					wrong := slices.Clone(l)
					wrong[place] = w
					sameEdOut(t, "a key not right", impl.EdAll(e, wrong), refused())
				}
			}
			sameEdOut(t, "alone", impl.EdAll(e, []key{w}), refused())
			sameEdOut(t, "behind what is done", impl.EdAll(e, []key{plain(impl.KyEnter), w}), refused())
			sameEdOut(t, "more than can be", impl.EdAll(e, append(slices.Clone(more), w)), refused())
		}
	}
}

// memoryOf are all texts that an Ed reaches, with what stands in the room behind its lists.
func memoryOf(e ed) []string {
	l := []string{e.Line.Text, e.Hist.Kept}
	for _, x := range e.Undos[:cap(e.Undos)] {
		l = append(l, x.Text)
	}
	l = append(l, e.Kills.Texts[:cap(e.Kills.Texts)]...)
	return append(l, e.Hist.Lines[:cap(e.Hist.Lines)]...)
}

// ownMemory is the same Ed, each text and list of it in memory of its own.
func ownMemory(e ed, room bool) ed {
	e.Line, e.Hist = cloneLine(e.Line), cloneHist(e.Hist)
	e.Kills.Texts = withRoom(e.Kills.Texts, strings.Clone, "behind")
	e.Undos = withRoom(e.Undos, cloneLine, lineAt("behind", 6))
	if !room {
		e.Kills.Texts, e.Undos, e.Hist.Lines = slices.Clip(e.Kills.Texts), slices.Clip(e.Undos), slices.Clip(e.Hist.Lines)
	}
	return e
}

func spoilEd(e ed) {
	spoil(e.Kills.Texts, "turned")
	spoil(e.Undos, lineAt("turned", 0))
	spoil(e.Hist.Lines, "turned")
}

// checkOwnLists writes over each list alone: no other one turns.
func checkOwnLists(t *testing.T, e ed, call func(e ed) edOut) {
	t.Helper()
	for part := range 3 {
		got, want := call(e).Ed, call(e).Ed
		switch part {
		case 0:
			spoil(got.Kills.Texts, "turned")
			got.Kills = want.Kills
		case 1:
			spoil(got.Undos, lineAt("turned", 0))
			got.Undos = want.Undos
		case 2:
			spoil(got.Hist.Lines, "turned")
			got.Hist.Lines = want.Hist.Lines
		}
		same(t, "the other lists", equalEds(got, want), true)
	}
}

// checkNewEd tries a call that hands an Ed back, with lists that have room behind them and with such that have none.
func checkNewEd(t *testing.T, e ed, call func(e ed) edOut) {
	t.Helper()
	want := call(e)
	for _, room := range []bool{true, false} {
		in := ownMemory(e, room)
		all := memoryOf(in)
		got := call(in)
		told := append(memoryOf(got.Ed), got.Text)
		for i, x := range told {
			anyShares(t, x, all...)
			anyShares(t, x, told[i+1:]...)
		}
		spoilEd(got.Ed)
		same(t, "handed in", equalEds(in, e) && slices.Equal(memoryOf(in), all), true)
		again := call(in)
		spoilEd(in)
		sameEdOut(t, "handed back", again, want)
	}
	checkOwnLists(t, e, call)
}

func TestPromise8NewMemory(t *testing.T) {
	r := rand.New(rand.NewSource(13))
	for _, e := range someEds(60) {
		for _, kind := range allKinds() {
			checkNewEd(t, e, func(e ed) edOut { return impl.EdDo(e, keyOfKind(kind)) })
		}
		for _, size := range []int{0, 1, 30} {
			l := someKeys(r, size)
			handedIn := slices.Clone(l)
			checkNewEd(t, e, func(e ed) edOut { return impl.EdAll(e, l) })
			sameKeys(t, "handed in", l, handedIn)
		}
		checkNewEd(t, ed{Hist: e.Hist}, func(e ed) edOut { return impl.EdNew(e.Hist) })
		in := ownMemory(e, true)
		impl.EdRight(in)
		same(t, "handed in", equalEds(in, e), true)
	}
}
