package tests

import (
	"encoding/binary"
	"hash/crc32"
	"math"
	"math/rand"
	"strings"
	"testing"

	"loop.example/g00731/impl"
)

func same[T comparable](t *testing.T, what string, got T, want T) {
	t.Helper()
	if got != want {
		t.Errorf("%q: got %#v, want %#v", what, got, want)
	}
}

// manyBytes has every byte in it, where it is long enough.
func manyBytes(size int) string {
	b := make([]byte, size)
	for i := range b {
		b[i] = byte(i*7 + i/256)
	}
	return string(b)
}

// edgeNumbers stand on both sides of each place where one byte more is needed, and at both ends of int64.
func edgeNumbers() []int64 {
	l := []int64{0, 1, -1, 2, -2, math.MaxInt64, math.MaxInt64 - 1, math.MinInt64, math.MinInt64 + 1}
	for bits := 6; bits < 63; bits += 7 {
		edge := int64(1) << bits
		l = append(l, edge-1, edge, edge+1, -edge-1, -edge, -edge+1)
	}
	return l
}

func someNumbers() []int64 {
	l := edgeNumbers()
	r := rand.New(rand.NewSource(1))
	for i := range 2000 {
		l = append(l, int64(r.Uint64())>>(i%64))
	}
	return l
}

func TestPromise1NumberBytes(t *testing.T) {
	for _, x := range []struct {
		n    int64
		want string
	}{
		{0, "\x00"}, {-1, "\x01"}, {1, "\x02"}, {-2, "\x03"},
		{63, "\x7e"}, {-64, "\x7f"}, {64, "\x80\x01"}, {-65, "\x81\x01"},
		{8191, "\xfe\x7f"}, {-8192, "\xff\x7f"}, {8192, "\x80\x80\x01"}, {-8193, "\x81\x80\x01"},
		{math.MaxInt64, "\xfe\xff\xff\xff\xff\xff\xff\xff\xff\x01"},
		{math.MinInt64, "\xff\xff\xff\xff\xff\xff\xff\xff\xff\x01"},
	} {
		same(t, "PutNum", impl.PutNum(x.n), x.want)
	}
	for _, n := range someNumbers() {
		same(t, "PutNum", impl.PutNum(n), string(binary.AppendVarint(nil, n)))
	}
}

func TestPromise1NumbersComeBack(t *testing.T) {
	for _, n := range someNumbers() {
		b := impl.PutNum(n)
		size := int64(len(b))
		same(t, "alone", impl.GetNum(b, 0), impl.NumOut{N: n, At: size})
		same(t, "between", impl.GetNum("\xff\x80"+b+"\x00\xff", 2), impl.NumOut{N: n, At: 2 + size})
	}
	l := edgeNumbers()
	all := ""
	for _, n := range l {
		all += impl.PutNum(n)
	}
	at := int64(0)
	for _, n := range l {
		got := impl.GetNum(all, at)
		same(t, "in a row", got, impl.NumOut{N: n, At: at + int64(len(impl.PutNum(n)))})
		at = got.At
	}
	same(t, "end of the row", at, int64(len(all)))
}

func TestPromise1NumberPlaces(t *testing.T) {
	for _, text := range []string{"", "\x02", "\x80", "\x80\x00", "ab"} {
		for _, at := range []int64{-1, -2, math.MinInt64} {
			same(t, "below 0", impl.GetNum(text, at), impl.NumOut{Code: impl.ErrForm})
			same(t, "below 0", impl.GetText(text, at), impl.TextOut{Code: impl.ErrForm})
		}
		size := int64(len(text))
		for _, at := range []int64{size, size + 1, size + 2, math.MaxInt64} {
			same(t, "end", impl.GetNum(text, at), impl.NumOut{Code: impl.ErrShort})
			same(t, "end", impl.GetText(text, at), impl.TextOut{Code: impl.ErrShort})
		}
	}
}

func TestPromise1NumberCutOff(t *testing.T) {
	for _, n := range edgeNumbers() {
		b := impl.PutNum(n)
		for cut := range len(b) {
			same(t, "cut off", impl.GetNum(b[:cut], 0), impl.NumOut{Code: impl.ErrShort})
			same(t, "cut off", impl.GetText("x"+b[:cut], 1), impl.TextOut{Code: impl.ErrShort})
		}
	}
	// More bytes than are needed may be on their way: as long as they end too early, that is the fault.
	for size := 1; size < 10; size++ {
		same(t, "open", impl.GetNum(strings.Repeat("\x80", size), 0), impl.NumOut{Code: impl.ErrShort})
		same(t, "open", impl.GetNum(strings.Repeat("\xff", size), 0), impl.NumOut{Code: impl.ErrShort})
	}
}

func TestPromise1NumberBadlyWritten(t *testing.T) {
	for _, n := range edgeNumbers() {
		b := impl.PutNum(n)
		for more := 1; len(b)+more <= 10; more++ {
			long := b[:len(b)-1] + string([]byte{b[len(b)-1] + 128}) + strings.Repeat("\x80", more-1) + "\x00"
			same(t, "more bytes than needed", impl.GetNum(long, 0), impl.NumOut{Code: impl.ErrSyntax})
			same(t, "more bytes than needed", impl.GetText(long+"a", 0), impl.TextOut{Code: impl.ErrSyntax})
		}
	}
	for _, nine := range []string{strings.Repeat("\x80", 9), strings.Repeat("\xff", 9), "\x80\xff\x81\xfe\x90\xa0\xc0\x80\x80"} {
		for tenth := range 256 {
			b := nine + string([]byte{byte(tenth)})
			if tenth == 1 {
				same(t, "tenth byte 1", impl.GetNum(b, 0).At, int64(10))
				continue
			}
			same(t, "tenth byte", impl.GetNum(b, 0), impl.NumOut{Code: impl.ErrSyntax})
			same(t, "tenth byte, more behind", impl.GetNum(b+"\x01\x01", 0), impl.NumOut{Code: impl.ErrSyntax})
			same(t, "tenth byte", impl.GetText(b, 0), impl.TextOut{Code: impl.ErrSyntax})
		}
	}
}

// numByDocument reads with the library's decoder, which takes bytes that are not needed.
func numByDocument(text string, at int64) impl.NumOut {
	rest := text[at:]
	ten := []byte(rest[:min(len(rest), 10)])
	n, size := binary.Varint(ten)
	switch {
	case size < 0 || size == 0 && len(ten) == 10:
		return impl.NumOut{Code: impl.ErrSyntax}
	case size == 0:
		return impl.NumOut{Code: impl.ErrShort}
	case string(binary.AppendVarint(nil, n)) != string(ten[:size]):
		return impl.NumOut{Code: impl.ErrSyntax}
	}
	return impl.NumOut{N: n, At: at + int64(size)}
}

func TestPromise1WhateverBytes(t *testing.T) {
	kinds := []byte{0, 1, 2, 127, 128, 129, 255}
	r := rand.New(rand.NewSource(2))
	for range 20000 {
		b := make([]byte, r.Intn(14))
		for i := range b {
			b[i] = kinds[r.Intn(len(kinds))]
			if i%3 != 0 { // long numbers are rare else
				b[i] |= 128
			}
		}
		for at := range len(b) + 1 {
			text := string(b)
			got := impl.GetNum(text, int64(at))
			same(t, "bytes "+text, got, numByDocument(text, int64(at)))
			if got.Code == impl.OK {
				same(t, "its bytes", text[at:got.At], impl.PutNum(got.N))
			}
		}
	}
}

func TestPromise1TooLong(t *testing.T) {
	full := strings.Repeat("\x00", impl.MaxBytes)
	same(t, "last byte", impl.GetNum(full, impl.MaxBytes-1), impl.NumOut{At: impl.MaxBytes})
	same(t, "last byte", impl.GetText(full, impl.MaxBytes-1), impl.TextOut{At: impl.MaxBytes})
	same(t, "behind", impl.GetNum(full, impl.MaxBytes), impl.NumOut{Code: impl.ErrShort})
	for _, at := range []int64{0, 1, -1, impl.MaxBytes, impl.MaxBytes + 1, math.MinInt64, math.MaxInt64} {
		same(t, "too long", impl.GetNum(full+"\x00", at), impl.NumOut{Code: impl.ErrSize})
		same(t, "too long", impl.GetText(full+"\x00", at), impl.TextOut{Code: impl.ErrSize})
	}
}

func TestPromise1TextsComeBack(t *testing.T) {
	same(t, "no text", impl.PutText(""), "\x00")
	same(t, "short text", impl.PutText("ab"), "\x04ab")
	for _, size := range []int{0, 1, 2, 63, 64, 65, 300, 4000, impl.MaxBytes - 3, impl.MaxBytes - 2} {
		text := manyBytes(size)
		b := impl.PutText(text)
		same(t, "bytes", b, impl.PutNum(int64(size))+text)
		same(t, "alone", impl.GetText(b, 0), impl.TextOut{Text: text, At: int64(len(b))})
		if size <= 4000 {
			same(t, "between", impl.GetText("\xff"+b+"\x81z", 1), impl.TextOut{Text: text, At: int64(len(b)) + 1})
		}
		for _, cut := range []int{1, 2, size / 2, size} {
			if 0 < cut && cut <= size {
				same(t, "cut off", impl.GetText(b[:len(b)-cut], 0), impl.TextOut{Code: impl.ErrShort})
			}
		}
	}
}

func TestPromise1TextsThatDoNotFit(t *testing.T) {
	full := manyBytes(impl.MaxBytes)
	b := impl.PutText(full)
	same(t, "greatest text", b, "\x80\x7d"+full)
	same(t, "longer than can be read", impl.GetText(b, 0), impl.TextOut{Code: impl.ErrSize})
	same(t, "cut to what can be read", impl.GetText(b[:impl.MaxBytes], 0), impl.TextOut{Code: impl.ErrShort})
	same(t, "one more", impl.PutText(full+"a"), "")
	same(t, "twice", impl.PutText(full+full), "")
}

func TestPromise1LengthAheadOfTooLittle(t *testing.T) {
	for _, size := range []int64{-1, -2, -64, math.MinInt64, impl.MaxBytes + 1, impl.MaxBytes + 2, math.MaxInt64} {
		for _, behind := range []string{"", "ab", manyBytes(500)} {
			same(t, "length", impl.GetText(impl.PutNum(size)+behind, 0), impl.TextOut{Code: impl.ErrSyntax})
		}
	}
	for _, size := range []int64{3, 64, 7999, impl.MaxBytes} {
		for _, behind := range []string{"", "ab"} {
			same(t, "text", impl.GetText(impl.PutNum(size)+behind, 0), impl.TextOut{Code: impl.ErrShort})
		}
	}
}

func TestNames(t *testing.T) {
	twenty := "a" + strings.Repeat("z9_", 6) + "0"
	for _, name := range []string{"a", "z", "m", "a_9", "a_", "z0", "abc", "a__", twenty, strings.Repeat("q", 20)} {
		same(t, name, impl.NameRight(name), true)
	}
	for _, name := range []string{"", "_", "_a", "0", "9a", "A", "aB", "a b", " a", "a ", "a-b", "a.b", "a\n", "a\x00", "\xc3\xa9", "a\xc3\xa9", twenty + "a", strings.Repeat("q", 21), strings.Repeat("a", impl.MaxBytes), strings.Repeat("a", impl.MaxBytes+1)} {
		same(t, name, impl.NameRight(name), false)
	}
	const first = "abcdefghijklmnopqrstuvwxyz"
	const later = first + "0123456789_"
	for i := range 256 {
		b := string([]byte{byte(i)})
		same(t, "first "+b, impl.NameRight(b+"a"), strings.Contains(first, b))
		same(t, "alone "+b, impl.NameRight(b), strings.Contains(first, b))
		same(t, "between "+b, impl.NameRight("a"+b+"a"), strings.Contains(later, b))
		same(t, "last "+b, impl.NameRight(strings.Repeat("a", 19)+b), strings.Contains(later, b))
	}
}

func TestPromise2Crc(t *testing.T) {
	same(t, "empty", impl.Crc(""), 0)
	same(t, "nine digits", impl.Crc("123456789"), 0xCBF43926)
	for i := range 256 {
		b := string([]byte{byte(i)})
		same(t, "one byte", impl.Crc(b), int64(crc32.ChecksumIEEE([]byte(b))))
	}
	for _, size := range []int{2, 3, 4, 5, 255, 256, 1000, impl.MaxBytes - 1, impl.MaxBytes} {
		text := manyBytes(size)
		same(t, "many bytes", impl.Crc(text), int64(crc32.ChecksumIEEE([]byte(text))))
	}
	same(t, "too long", impl.Crc(manyBytes(impl.MaxBytes+1)), 0)
}

func TestPromise2CrcGoesOn(t *testing.T) {
	text := manyBytes(300)
	for cut := range len(text) + 1 {
		same(t, "in two", impl.CrcMore(impl.Crc(text[:cut]), text[cut:]), impl.Crc(text))
	}
	full := manyBytes(impl.MaxBytes)
	same(t, "more than one call takes", impl.CrcMore(impl.Crc(full), full), int64(crc32.ChecksumIEEE([]byte(full+full))))
	same(t, "too long", impl.CrcMore(1, full+"a"), 0)
	same(t, "too long, nothing ahead", impl.CrcMore(0, full+"a"), 0)
	for _, crc := range []int64{0, 1, 2, 1 << 31, 1<<32 - 2, 1<<32 - 1} {
		same(t, "nothing behind", impl.CrcMore(crc, ""), crc)
		same(t, "ab behind", impl.CrcMore(crc, "ab"), int64(crc32.Update(uint32(crc), crc32.IEEETable, []byte("ab"))))
	}
	for _, crc := range []int64{-1, -2, 1 << 32, 1<<32 + 1, math.MinInt64, math.MaxInt64} {
		same(t, "no crc", impl.CrcMore(crc, "ab"), 0)
		same(t, "no crc, nothing behind", impl.CrcMore(crc, ""), 0)
	}
}

func TestPromise2SealedComesBack(t *testing.T) {
	same(t, "bytes", impl.Seal("123456789"), "123456789\x26\x39\xf4\xcb")
	same(t, "nothing sealed", impl.Seal(""), "\x00\x00\x00\x00")
	for _, size := range []int{0, 1, 2, 3, 4, 5, 60, 256, 1000, impl.MaxBytes - 5, impl.MaxBytes - 4} {
		text := manyBytes(size)
		sealed := impl.Seal(text)
		same(t, "sealed", sealed, string(binary.LittleEndian.AppendUint32([]byte(text), crc32.ChecksumIEEE([]byte(text)))))
		same(t, "comes back", impl.Unseal(sealed), impl.TextOut{Text: text})
	}
	for _, size := range []int{impl.MaxBytes - 3, impl.MaxBytes, impl.MaxBytes + 1} {
		same(t, "too long to seal", impl.Seal(manyBytes(size)), "")
	}
	same(t, "sealed twice", impl.Unseal(impl.Unseal(impl.Seal(impl.Seal("ab"))).Text), impl.TextOut{Text: "ab"})
}

func turned(text string, at int, by byte) string {
	b := []byte(text)
	b[at] ^= by
	return string(b)
}

func TestPromise2TurnedIsRefused(t *testing.T) {
	refused := impl.TextOut{Code: impl.ErrSum}
	for _, text := range []string{"", "a", "ab", "\x00", "\xff\xff", "a line of text", manyBytes(100)} {
		sealed := impl.Seal(text)
		for at := range len(sealed) {
			for by := 1; by < 256; by++ {
				same(t, "turned", impl.Unseal(turned(sealed, at, byte(by))), refused)
			}
		}
	}
	longest := impl.Seal(manyBytes(impl.MaxBytes - 4))
	for at := range len(longest) {
		same(t, "turned in the longest", impl.Unseal(turned(longest, at, byte(1<<(at%8)))), refused)
	}
}

func TestPromise2NotSealed(t *testing.T) {
	for _, text := range []string{"", "a", "ab", "abc", "\x00\x00\x00"} {
		same(t, "too short", impl.Unseal(text), impl.TextOut{Code: impl.ErrShort})
	}
	for _, text := range []string{"abcd", "\x00\x00\x00\x01", "\xff\xff\xff\xff", "123456789\xcb\xf4\x39\x26", "\x26\x39\xf4\xcb123456789", manyBytes(impl.MaxBytes)} {
		same(t, "no seal", impl.Unseal(text), impl.TextOut{Code: impl.ErrSum})
	}
	sealed := impl.Seal("a line")
	same(t, "one byte less", impl.Unseal(sealed[:len(sealed)-1]), impl.TextOut{Code: impl.ErrSum})
	same(t, "one byte more", impl.Unseal(sealed+"\x00"), impl.TextOut{Code: impl.ErrSum})
	for _, size := range []int{impl.MaxBytes + 1, impl.MaxBytes + 4, 2 * impl.MaxBytes} {
		same(t, "too long", impl.Unseal(manyBytes(size)), impl.TextOut{Code: impl.ErrSize})
	}
	long := manyBytes(impl.MaxBytes)
	sum := binary.LittleEndian.AppendUint32(nil, crc32.ChecksumIEEE([]byte(long)))
	same(t, "too long, with its CRC", impl.Unseal(long+string(sum)), impl.TextOut{Code: impl.ErrSize})
}
