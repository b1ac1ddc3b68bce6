package tests

import (
	"bytes"
	"math"
	"math/rand"
	"slices"
	"strings"
	"testing"

	"loop.example/g00731/impl"
)

type key = impl.Key

type keyOut = impl.KeyOut

// tableRow is what stands in the document's table: all bytes that a key comes of, in order.
type tableRow struct {
	kind  int64
	bytes [][]byte
}

// theTable is written out in numbers, as the document has them, where the program has texts.
func theTable() []tableRow {
	one := func(b ...byte) [][]byte {
		l := [][]byte{}
		for _, x := range b {
			l = append(l, []byte{x})
		}
		return l
	}
	behindEscape := func(b byte) [][]byte { return [][]byte{{27, b}} }
	orArrow := func(b byte, arrow byte) [][]byte { return [][]byte{{b}, {27, 91, arrow}} }
	return []tableRow{
		{impl.KyLeft, orArrow(2, 'D')}, {impl.KyRight, orArrow(6, 'C')},
		{impl.KyHome, one(1)}, {impl.KyEnd, one(5)},
		{impl.KyBack, one(8, 127)}, {impl.KyDel, one(4)},
		{impl.KyKillEnd, one(11)}, {impl.KyKillWord, one(23)},
		{impl.KyYank, one(25)}, {impl.KyTurn, behindEscape('y')},
		{impl.KyUndo, one(31)}, {impl.KySwap, one(20)},
		{impl.KyWordBack, behindEscape('b')}, {impl.KyWordOn, behindEscape('f')},
		{impl.KyUpper, behindEscape('u')}, {impl.KyLower, behindEscape('l')},
		{impl.KyUp, orArrow(16, 'A')}, {impl.KyDown, orArrow(14, 'B')},
		{impl.KyEnter, one(13, 10)}, {impl.KyAbort, one(3)},
		{impl.KySayChar, behindEscape('c')}, {impl.KySayWord, behindEscape('w')},
		{impl.KySayLine, behindEscape('s')},
	}
}

// theWaits are all that may wait.
func theWaits() []string {
	return []string{"", "\x1b", "\x1b["}
}

// wrongWaits are longer than what may wait, whole keys, or of other bytes.
func wrongWaits() []string {
	l := []string{
		"\x1b[A", "\x1b[D", "\x1b[[", "\x1b[\x1b", "\x1b[1", "\x1b[ ", "\x1b\x1b", "\x1b\x1b[", "\x1b[\x1b[", "\x1by", "\x1bb", "\x1bq", "\x1bO", "\x1b]", "\x1b ", "\x1b\x00",
		"[", "[\x1b", "[D", "a", "ab", " ", "\x00", "\x01", "\x1a", "\x1c", "\x7f", "\x80", "\x9b", "\xff", "\x00\x1b", "\x1b[\x00", "a\x1b", " \x1b", " \x1b[",
		fullText, strings.Repeat("\x1b", impl.MaxBytes), strings.Repeat("\x1b[", impl.MaxBytes/2), strings.Repeat("a", impl.MaxBytes-1), strings.Repeat("a", impl.MaxBytes),
	}
	for _, row := range theTable() {
		for _, b := range row.bytes {
			l = append(l, string(b))
		}
	}
	return l
}

// wrongBytes are no bytes, some of them such that their lowest eight bits are a key.
func wrongBytes() []int64 {
	return []int64{-1, -2, -128, -254, -256, 256, 257, 258, 256 + 27, 256 + 'a', 1<<32 + 2, 1<<32 + 'a', -1<<32 + 'a', math.MaxInt64, math.MaxInt64 - 1, math.MinInt64, math.MinInt64 + 1, math.MinInt64 + 2}
}

// outByDocument goes sentence by sentence, row by row, as the document has it.
func outByDocument(wait string, b byte) keyOut {
	all := append([]byte(wait), b)
	begins := false
	for _, row := range theTable() {
		for _, x := range row.bytes {
			if bytes.Equal(x, all) {
				return keyOut{Key: key{Kind: row.kind}, Has: true}
			}
			begins = begins || bytes.HasPrefix(x, all)
		}
	}
	switch {
	case begins:
		return keyOut{Wait: string(all)}
	case wait == "" && b >= ' ' && b <= '~':
		return keyOut{Key: key{Kind: impl.KySelf, Byte: int64(b)}, Has: true}
	}
	return keyOut{Key: key{Kind: impl.KyBad, Byte: int64(b)}, Has: true}
}

// keysByDocument goes byte by byte by the document's sentences.
func keysByDocument(text string) []key {
	l := []key{}
	wait := ""
	for _, b := range []byte(text) {
		out := outByDocument(wait, b)
		if out.Has {
			l = append(l, out.Key)
		}
		wait = out.Wait
	}
	return l
}

func sameKeys(t *testing.T, what string, got []key, want []key) {
	t.Helper()
	if !slices.Equal(got, want) {
		t.Errorf("%.80q: got %d keys, want %d: %.400v, %.400v", what, len(got), len(want), got, want)
	}
}

func selfKey(b byte) key       { return key{Kind: impl.KySelf, Byte: int64(b)} }
func badKey(b byte) key        { return key{Kind: impl.KyBad, Byte: int64(b)} }
func plain(kind int64) key     { return key{Kind: kind} }
func times(k key, n int) []key { return slices.Repeat([]key{k}, n) }

// keyTexts are of all kinds: each row of the table, what begins one, what begins none, and many that are made of such pieces.
func keyTexts() []string {
	l := []string{"", "a", "one two", "\x1b", "\x1b[", "\x1b\x1b", "\x1b\x1b[D", "\x1b[\x1b[D", "\x1b[\x1bb", "a\x1b", "a\x1b[", "\x1bq\x1b", "\u00e9\u20ac", "\x02\x06\x1b[C\x1b[D"}
	pieces := append([]string{"a", " ", "~", "\x1b", "\x1b[", "[", "D", "\x00", "\x80", "\xff"}, wrongTexts()...)
	for _, row := range theTable() {
		for _, b := range row.bytes {
			pieces = append(pieces, string(b))
		}
	}
	l = append(l, pieces...)
	r := rand.New(rand.NewSource(5))
	for range 300 {
		text := ""
		for range r.Intn(12) {
			text += pieces[r.Intn(len(pieces))]
		}
		l = append(l, text[:min(len(text), impl.MaxBytes)])
	}
	for range 300 {
		b := make([]byte, r.Intn(40))
		for i := range b {
			b[i] = byte(r.Intn(256))
		}
		l = append(l, string(b))
	}
	return append(l, manyBytes(600), textsBetween(5))
}

// textsBetween has all texts of that many of these bytes in it, one behind the other.
func textsBetween(most int) string {
	return strings.Join(textsOf("\x1b[Db", most), "")
}

func TestPromise5EachRow(t *testing.T) {
	rows := 0
	for _, row := range theTable() {
		for _, b := range row.bytes {
			rows++
			wait := ""
			for _, x := range b[:len(b)-1] {
				got := impl.KeyOf(wait, int64(x))
				wait += string([]byte{x})
				same(t, "not whole yet", got, keyOut{Wait: wait})
			}
			same(t, "whole", impl.KeyOf(wait, int64(b[len(b)-1])), keyOut{Key: plain(row.kind), Has: true})
			sameKeys(t, "alone", impl.KeysOf(string(b)), []key{plain(row.kind)})
			sameKeys(t, "between", impl.KeysOf("a"+string(b)+"b"), []key{selfKey('a'), plain(row.kind), selfKey('b')})
			sameKeys(t, "behind what begins none", impl.KeysOf("\x1bq"+string(b)), []key{badKey('q'), plain(row.kind)})
		}
	}
	same(t, "bytes in the table", rows, 29)
}

func TestPromise5EachByte(t *testing.T) {
	for i := range 256 {
		b := byte(i)
		for _, wait := range theWaits() {
			same(t, wait+"|"+string([]byte{b}), impl.KeyOf(wait, int64(b)), outByDocument(wait, b))
		}
	}
	for _, x := range []struct {
		wait string
		b    int64
		want keyOut
	}{
		{"", 'a', keyOut{Key: selfKey('a'), Has: true}},
		{"", 31, keyOut{Key: plain(impl.KyUndo), Has: true}},
		{"", ' ', keyOut{Key: selfKey(' '), Has: true}},
		{"", '~', keyOut{Key: selfKey('~'), Has: true}},
		{"", 127, keyOut{Key: plain(impl.KyBack), Has: true}},
		{"", '[', keyOut{Key: selfKey('['), Has: true}},
		{"", 'D', keyOut{Key: selfKey('D'), Has: true}},
		{"", 0, keyOut{Key: badKey(0), Has: true}},
		{"", 26, keyOut{Key: badKey(26), Has: true}},
		{"", 28, keyOut{Key: badKey(28), Has: true}},
		{"", 128, keyOut{Key: badKey(128), Has: true}},
		{"", 255, keyOut{Key: badKey(255), Has: true}},
		{"", 27, keyOut{Wait: "\x1b"}},
		{"\x1b", '[', keyOut{Wait: "\x1b["}},
		// What begins nothing is bad, be it printed, or a key where it is alone.
		{"\x1b", 27, keyOut{Key: badKey(27), Has: true}},
		{"\x1b", 'a', keyOut{Key: badKey('a'), Has: true}},
		{"\x1b", 'B', keyOut{Key: badKey('B'), Has: true}},
		{"\x1b", 'D', keyOut{Key: badKey('D'), Has: true}},
		{"\x1b", 2, keyOut{Key: badKey(2), Has: true}},
		{"\x1b", 13, keyOut{Key: badKey(13), Has: true}},
		{"\x1b", 200, keyOut{Key: badKey(200), Has: true}},
		{"\x1b[", 27, keyOut{Key: badKey(27), Has: true}},
		{"\x1b[", '[', keyOut{Key: badKey('['), Has: true}},
		{"\x1b[", 'd', keyOut{Key: badKey('d'), Has: true}},
		{"\x1b[", 'y', keyOut{Key: badKey('y'), Has: true}},
		{"\x1b[", 'E', keyOut{Key: badKey('E'), Has: true}},
		{"\x1b[", 2, keyOut{Key: badKey(2), Has: true}},
		{"\x1b[", 0, keyOut{Key: badKey(0), Has: true}},
		{"\x1b[", 255, keyOut{Key: badKey(255), Has: true}},
	} {
		same(t, x.wait, impl.KeyOf(x.wait, x.b), x.want)
	}
}

func TestPromise5KeyOfFaults(t *testing.T) {
	form, size := keyOut{Code: impl.ErrForm}, keyOut{Code: impl.ErrSize}
	for _, wait := range wrongWaits() {
		for _, b := range append(wrongBytes(), 0, 2, 27, 'D', 'a', '[', 255) {
			same(t, "wait that is none", impl.KeyOf(wait, b), form)
		}
	}
	for _, wait := range theWaits() {
		for _, b := range wrongBytes() {
			same(t, "no byte", impl.KeyOf(wait, b), form)
		}
		for _, b := range []int64{0, 1, 27, 'a', 127, 128, 254, 255} {
			same(t, "a byte", impl.KeyOf(wait, b).Code, impl.OK)
		}
	}
	for _, wait := range []string{strings.Repeat("\x1b", impl.MaxBytes+1), strings.Repeat("a", impl.MaxBytes+1), strings.Repeat("a", 3*impl.MaxBytes)} {
		for _, b := range append(wrongBytes(), 0, 27, 'a') {
			same(t, "too long to be handed in", impl.KeyOf(wait, b), size)
		}
	}
}

func TestPromise5KeysOf(t *testing.T) {
	for _, x := range []struct {
		text string
		want []key
	}{
		{"", nil},
		{"ab", []key{selfKey('a'), selfKey('b')}},
		{"a\x1b[D\x1bq\r", []key{selfKey('a'), plain(impl.KyLeft), badKey('q'), plain(impl.KyEnter)}},
		{"\r\n", times(plain(impl.KyEnter), 2)},
		{"\x08\x7f", times(plain(impl.KyBack), 2)},
		{"[D", []key{selfKey('['), selfKey('D')}},
		// What waits at the end is no key yet.
		{"\x1b", nil}, {"\x1b[", nil},
		{"a\x1b", []key{selfKey('a')}}, {"a\x1b[", []key{selfKey('a')}}, {"\x1bq\x1b[", []key{badKey('q')}},
		// The last byte alone is bad, and nothing waits behind it.
		{"\x1b\x1b", []key{badKey(27)}},
		{"\x1b\x1b\x1b", []key{badKey(27)}},
		{"\x1b\x1b\x1b\x1b", times(badKey(27), 2)},
		{"\x1b\x1b[D", []key{badKey(27), selfKey('['), selfKey('D')}},
		{"\x1b\x1bb", []key{badKey(27), selfKey('b')}},
		{"\x1b[\x1b[D", []key{badKey(27), selfKey('['), selfKey('D')}},
		{"\x1b[\x1bb", []key{badKey(27), selfKey('b')}},
		{"\x1b[[D", []key{badKey('['), selfKey('D')}},
		{"\x1b[1D", []key{badKey('1'), selfKey('D')}},
		{"\x1bOD", []key{badKey('O'), selfKey('D')}},
		{"\x1b\x02a", []key{badKey(2), selfKey('a')}},
		{"\x1b[\ra", []key{badKey(13), selfKey('a')}},
		// Bytes, not runes.
		{"\u00e9", []key{badKey(0xc3), badKey(0xa9)}},
		{"\x1b\u00e9", []key{badKey(0xc3), badKey(0xa9)}},
		{"\x00\x80\xff", []key{badKey(0), badKey(0x80), badKey(0xff)}},
	} {
		sameKeys(t, x.text, impl.KeysOf(x.text), x.want)
	}
	for _, text := range keyTexts() {
		sameKeys(t, text, impl.KeysOf(text), keysByDocument(text))
	}
}

func TestPromise5KeysOfIsKeyOfByteByByte(t *testing.T) {
	for _, text := range keyTexts() {
		l := []key{}
		wait := ""
		for i := range len(text) {
			out := impl.KeyOf(wait, int64(text[i]))
			same(t, "code", out.Code, impl.OK)
			same(t, "waits, or has come", out.Has, out.Wait == "")
			if out.Has {
				l = append(l, out.Key)
			} else {
				same(t, "not come yet", out.Key, key{})
			}
			wait = out.Wait
		}
		sameKeys(t, text, impl.KeysOf(text), l)
	}
}

func TestPromise5KeysAreRight(t *testing.T) {
	for _, text := range append(keyTexts(), strings.Repeat("\x1b\xff\x00", 2000), manyBytes(impl.MaxBytes)) {
		for _, k := range impl.KeysOf(text) {
			same(t, "right", impl.KeyRight(k), true)
			same(t, "its bytes", len(impl.BytesOf(k)) > 0, true)
		}
	}
}

func TestPromise5MoreBytesTurnNoKey(t *testing.T) {
	texts := keyTexts()
	for i, text := range texts {
		whole := impl.KeysOf(text)
		for _, more := range []string{"", "a", "\x1b", "[", "D", "\x1b[D", "\xff", texts[(i+7)%len(texts)]} {
			if len(text)+len(more) > impl.MaxBytes {
				continue
			}
			sameKeys(t, text+"|"+more, impl.KeysOf(text + more)[:len(whole)], whole)
		}
		for at := range min(len(text), 80) {
			part := impl.KeysOf(text[:at])
			sameKeys(t, text[:at], whole[:len(part)], part)
		}
	}
}

func TestPromise5KeysOfSizes(t *testing.T) {
	for _, x := range []struct {
		piece string
		want  key
	}{
		{"a", selfKey('a')}, {"\x02", plain(impl.KyLeft)}, {"\x00", badKey(0)}, {"\xff", badKey(255)},
		{"\x1by", plain(impl.KyTurn)}, {"\x1b\x1b", badKey(27)}, {"\x1b[D", plain(impl.KyLeft)}, {"\x1b[\x80", badKey(128)},
	} {
		whole := impl.MaxBytes / len(x.piece)
		all := strings.Repeat(x.piece, whole+2)
		sameKeys(t, "one less", impl.KeysOf(all[:impl.MaxBytes-1]), times(x.want, (impl.MaxBytes-1)/len(x.piece)))
		sameKeys(t, "just as many", impl.KeysOf(all[:impl.MaxBytes]), times(x.want, whole))
		sameKeys(t, "one more", impl.KeysOf(all[:impl.MaxBytes+1]), nil)
		sameKeys(t, "many more", impl.KeysOf(all+all), nil)
	}
	sameKeys(t, "one more than a list may have", impl.KeysOf(strings.Repeat("a", impl.MaxList+1)), times(selfKey('a'), impl.MaxList+1))
}

// rightKeys are all keys that are right.
func rightKeys() []key {
	l := []key{}
	for kind := int64(impl.KyLeft); kind <= impl.KySayLine; kind++ {
		l = append(l, plain(kind))
	}
	for b := range 256 {
		l = append(l, badKey(byte(b)))
		if 32 <= b && b <= 126 {
			l = append(l, selfKey(byte(b)))
		}
	}
	return l
}

func wrongKeys() []key {
	l := []key{
		{Kind: impl.KySelf, Byte: 0}, {Kind: impl.KySelf, Byte: 31}, {Kind: impl.KySelf, Byte: 127}, {Kind: impl.KySelf, Byte: 128}, {Kind: impl.KySelf, Byte: -1}, {Kind: impl.KySelf, Byte: 255},
		{Kind: impl.KyBad, Byte: -1}, {Kind: impl.KyBad, Byte: 256}, {Kind: impl.KyBad, Byte: 257},
	}
	for _, b := range append(wrongBytes(), 256+32, 1<<32+32) {
		l = append(l, key{Kind: impl.KySelf, Byte: b}, key{Kind: impl.KyBad, Byte: b})
	}
	for _, kind := range []int64{0, 26, 27, -1, -2, -25, 256 + 1, 256 + 2, 256 + 25, 1<<32 + 1, 1<<32 + 2, math.MaxInt64, math.MinInt64} {
		for _, b := range []int64{0, 1, 32, 'a', 255} {
			l = append(l, key{Kind: kind, Byte: b})
		}
	}
	for kind := int64(impl.KyLeft); kind <= impl.KySayLine; kind++ {
		for _, b := range append(wrongBytes(), 1, 2, 32, 'a', 255) {
			l = append(l, key{Kind: kind, Byte: b})
		}
	}
	return l
}

func TestPromise5KeyRight(t *testing.T) {
	for _, k := range rightKeys() {
		same(t, "right", impl.KeyRight(k), true)
	}
	for _, k := range wrongKeys() {
		same(t, "wrong", impl.KeyRight(k), false)
	}
	for kind := int64(-3); kind <= 30; kind++ {
		for b := int64(-3); b <= 300; b++ {
			want := kind == impl.KySelf && 32 <= b && b <= 126 || kind == impl.KyBad && 0 <= b && b <= 255 || 2 <= kind && kind <= 24 && b == 0
			same(t, "right", impl.KeyRight(key{Kind: kind, Byte: b}), want)
		}
	}
}

func TestPromise5BytesOf(t *testing.T) {
	kinds := map[int64]bool{}
	for _, row := range theTable() {
		kinds[row.kind] = true
		same(t, "what stands first", impl.BytesOf(plain(row.kind)), string(row.bytes[0]))
	}
	same(t, "kinds in the table", len(kinds), 23)
	for i := range 256 {
		b := byte(i)
		same(t, "KyBad", impl.BytesOf(badKey(b)), string([]byte{b}))
		if 32 <= b && b <= 126 {
			same(t, "KySelf", impl.BytesOf(selfKey(b)), string([]byte{b}))
		}
	}
	for _, k := range wrongKeys() {
		same(t, "not right", impl.BytesOf(k), "")
	}
	same(t, "the zero Key", impl.BytesOf(key{}), "")
}

func TestPromise5KeysComeBackFromTheirBytes(t *testing.T) {
	all, keys := "", []key{}
	for _, k := range rightKeys() {
		b := impl.BytesOf(k)
		// A bad byte may be another key where it is alone: it was bad for what waited.
		if k.Kind == impl.KyBad && outByDocument("", b[0]).Key != k {
			continue
		}
		sameKeys(t, b, impl.KeysOf(b), []key{k})
		all, keys = all+b, append(keys, k)
	}
	sameKeys(t, "in a row", impl.KeysOf(all), keys)
}

func TestPromise5ListsOfTheirOwn(t *testing.T) {
	text := "a\x1b[D\x1bq\r"
	want := []key{selfKey('a'), plain(impl.KyLeft), badKey('q'), plain(impl.KyEnter)}
	first, second := impl.KeysOf(text), impl.KeysOf(text)
	for i := range first {
		first[i] = key{Kind: 9, Byte: 9}
	}
	_ = append(first[:1], first...)
	sameKeys(t, "handed back ahead", second, want)
	sameKeys(t, "handed back behind", impl.KeysOf(text), want)
	wait := strings.Clone("\x1b")
	same(t, "a text of its own", shares(impl.KeyOf(wait, '[').Wait, wait), false)
}
