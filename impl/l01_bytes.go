package impl

import (
	"errors"
	"strconv"
	"strings"
)

// Constants, see chapter 1.
const (
	OK        = 0
	ErrForm   = 1
	ErrSize   = 2
	ErrSyntax = 3
	ErrShort  = 4
	ErrSum    = 5
	ErrNone   = 6
	ErrThere  = 7
	ErrRange  = 8
	ErrFull   = 9
	ErrState  = 10
	MaxBytes  = 8000
	MaxList   = 400
	MaxTime   = 1000000
)

const (
	maxNumBytes = 10
	moreFollow  = 128
	maxName     = 20
	sumBytes    = 4
	crcTurn     = 0xEDB88320
	maxCrc      = 1<<32 - 1
)

// NumOut is a thing of chapter 2.
type NumOut struct {
	N    int64
	At   int64
	Code int64
}

// TextOut is a thing of chapter 2.
type TextOut struct {
	Text string
	At   int64
	Code int64
}

// wrongBytes is why bytes could not be read, with the code that a face tells of it.
type wrongBytes struct {
	code int64
}

func (w wrongBytes) Error() string {
	return "bytes that can not be read, code " + strconv.FormatInt(w.code, 10)
}

// codeOf tells OK of no error, as errors.As finds nothing in it.
func codeOf(err error) int64 {
	var wrong wrongBytes
	if errors.As(err, &wrong) {
		return wrong.code
	}
	return OK
}

// joined is new memory, as every answer must be.
func joined(first string, second string) string {
	all := make([]byte, len(first)+len(second))
	behind := copy(all, first)
	copy(all[behind:], second)
	return string(all)
}

// folded lays the numbers below 0 between the others, so that those near 0 need few bytes.
func folded(n int64) uint64 {
	if n < 0 {
		// One more first: the lowest number has no opposite.
		return 2*uint64(-(n+1)) + 1
	}
	return 2 * uint64(n)
}

func unfolded(u uint64) int64 {
	half := int64(u / 2)
	if u%2 == 1 {
		return -half - 1
	}
	return half
}

// PutNum: see chapter 2.
func PutNum(n int64) string {
	var all [maxNumBytes]byte
	u := folded(n)
	last := 0
	for u >= moreFollow {
		all[last] = byte(u%moreFollow) + moreFollow
		u /= moreFollow
		last++
	}
	all[last] = byte(u)
	return string(all[:last+1])
}

// placeFault tells what is wrong ahead of any byte that is read.
func placeFault(text string, at int64) error {
	switch {
	case len(text) > MaxBytes:
		return wrongBytes{ErrSize}
	case at < 0:
		return wrongBytes{ErrForm}
	case at > int64(len(text)):
		return wrongBytes{ErrShort}
	}
	return nil
}

// readNum tells the number that stands at that place, and the place behind it.
func readNum(text string, at int64) (int64, int64, error) {
	if err := placeFault(text, at); err != nil {
		return 0, 0, err
	}
	var u uint64
	var b byte
	var code int64
	rest, i := text[at:], 0
more:
	if i == len(rest) {
		code = ErrShort
		goto wrong
	}
	b = rest[i]
	// The tenth byte ends a number whatever it is: no bits are left for an eleventh.
	if b < moreFollow || i == maxNumBytes-1 {
		goto last
	}
	u += uint64(b-moreFollow) << (7 * i)
	i++
	goto more
last:
	// A last byte of 0 behind others adds nothing: it was not needed.
	if i == maxNumBytes-1 && b > 1 || i > 0 && b == 0 {
		code = ErrSyntax
		goto wrong
	}
	u += uint64(b) << (7 * i)
	return unfolded(u), at + int64(i) + 1, nil
wrong:
	return 0, 0, wrongBytes{code}
}

// GetNum: see chapter 2.
func GetNum(text string, at int64) NumOut {
	n, behind, err := readNum(text, at)
	return NumOut{N: n, At: behind, Code: codeOf(err)}
}

// PutText: see chapter 2.
func PutText(t string) string {
	if len(t) > MaxBytes {
		return ""
	}
	return joined(PutNum(int64(len(t))), t)
}

func readText(text string, at int64) (string, int64, error) {
	size, from, err := readNum(text, at)
	if err != nil {
		return "", 0, err
	}
	if size < 0 || size > MaxBytes {
		return "", 0, wrongBytes{ErrSyntax}
	}
	to := from + size
	if to > int64(len(text)) {
		return "", 0, wrongBytes{ErrShort}
	}
	return strings.Clone(text[from:to]), to, nil
}

// GetText: see chapter 2.
func GetText(text string, at int64) TextOut {
	t, behind, err := readText(text, at)
	return TextOut{Text: t, At: behind, Code: codeOf(err)}
}

func isSmall(b byte) bool {
	return 'a' <= b && b <= 'z'
}

func isDigit(b byte) bool {
	return '0' <= b && b <= '9'
}

// NameRight: see chapter 2.
func NameRight(t string) bool {
	if t == "" || len(t) > maxName || !isSmall(t[0]) {
		return false
	}
	for i := range len(t) {
		if !isSmall(t[i]) && !isDigit(t[i]) && t[i] != '_' {
			return false
		}
	}
	return true
}

// Crc begins from the CRC of the empty text, which is 0.
func Crc(text string) int64 {
	return CrcMore(0, text)
}

// CrcMore goes on where a CRC ended: its bits turned back are the register that it came of.
func CrcMore(crc int64, text string) int64 {
	if len(text) > MaxBytes || crc < 0 || crc > maxCrc {
		return 0
	}
	register := ^uint32(crc)
	for i := range len(text) {
		register = crcByte(register, text[i])
	}
	return int64(^register)
}

// crcByte puts all eight bits in at once: each comes to the register's lowest place just when its turn comes.
func crcByte(register uint32, b byte) uint32 {
	register ^= uint32(b)
	for range 8 {
		low := register % 2
		register = register>>1 ^ low*crcTurn
	}
	return register
}

// sumText is how a CRC is written behind a text.
func sumText(crc int64) string {
	var sum [sumBytes]byte
	for i := range sum {
		sum[i] = byte(crc >> (8 * i))
	}
	return string(sum[:])
}

// Seal: see chapter 2.
func Seal(text string) string {
	if len(text) > MaxBytes-sumBytes {
		return ""
	}
	return joined(text, sumText(Crc(text)))
}

// Unseal: see chapter 2.
func Unseal(text string) TextOut {
	if len(text) > MaxBytes {
		return TextOut{Code: ErrSize}
	}
	if len(text) < sumBytes {
		return TextOut{Code: ErrShort}
	}
	inside := text[:len(text)-sumBytes]
	if Seal(inside) != text {
		return TextOut{Code: ErrSum}
	}
	return TextOut{Text: strings.Clone(inside)}
}
