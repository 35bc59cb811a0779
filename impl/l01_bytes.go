package impl

import (
	"errors"
	"strconv"
	"strings"
)

// Constants, see chapter 1.
const (
	OK        = 0
	ErrForm   = 1
	ErrSize   = 2
	ErrSyntax = 3
	ErrShort  = 4
	ErrSum    = 5
	ErrThere  = 7
	ErrNone   = 8
	ErrRange  = 9
	ErrLost   = 10
	ErrFull   = 11
	ErrLock   = 13
	MaxBytes  = 20000
	MaxList   = 400
)

const (
	hexDigits   = "0123456789abcdef"
	maxNameSize = 80
	// The tenth byte of a number starts at this bit: there is room for one bit more in 64.
	lastShift = 63
)

// NumOut is a thing of chapter 2.
type NumOut struct {
	N    int64
	At   int64
	Code int64
}

// TextOut is a thing of chapter 2.
type TextOut struct {
	Text string
	At   int64
	Code int64
}

// PutNum: see chapter 2.
func PutNum(n int64) string {
	u := foldSign(n)
	var out []byte
	for u >= 128 {
		out = append(out, byte(u)|128)
		u >>= 7
	}
	return string(append(out, byte(u)))
}

// GetNum: see chapter 2.
func GetNum(text string, at int64) NumOut {
	n, behind, err := readNum(text, at)
	if err != nil {
		return NumOut{Code: codeOf(err)}
	}
	return NumOut{N: n, At: behind}
}

// PutText: see chapter 2.
func PutText(t string) string {
	if len(t) > MaxBytes {
		return ""
	}
	return PutNum(int64(len(t))) + t
}

// GetText: see chapter 2.
func GetText(text string, at int64) TextOut {
	t, behind, err := readText(text, at)
	if err != nil {
		return TextOut{Code: codeOf(err)}
	}
	return TextOut{Text: t, At: behind}
}

// NameRight: see chapter 2.
func NameRight(t string) bool {
	if len(t) < 1 || len(t) > maxNameSize || !isLetter(t[0]) {
		return false
	}
	for i := 1; i < len(t); i++ {
		if !isLetter(t[i]) && !isDigit(t[i]) && t[i] != '-' {
			return false
		}
	}
	return true
}

// Hex: see chapter 2.
func Hex(t string) string {
	if len(t) > MaxBytes {
		return ""
	}
	out := make([]byte, 2*len(t))
	for i := 0; i < len(t); i++ {
		pair := hexPair(t[i])
		copy(out[2*i:], pair[:])
	}
	return string(out)
}

// HexRead: see chapter 2.
func HexRead(t string) TextOut {
	if len(t) > MaxBytes {
		return TextOut{Code: ErrSize}
	}
	if len(t)%2 != 0 {
		return TextOut{Code: ErrSyntax}
	}
	out := make([]byte, len(t)/2)
	for i := range out {
		high := strings.IndexByte(hexDigits, t[2*i])
		low := strings.IndexByte(hexDigits, t[2*i+1])
		if high < 0 || low < 0 {
			return TextOut{Code: ErrSyntax}
		}
		out[i] = byte(high<<4 | low)
	}
	return TextOut{Text: string(out)}
}

// readError is what is wrong with bytes that are read, by the code that is told of it.
type readError struct {
	code int64
}

func (e readError) Error() string {
	return "bytes cannot be read: code " + strconv.FormatInt(e.code, 10)
}

// codeOf may take what is no readError for OK: the readers of this file tell no other error.
func codeOf(err error) int64 {
	var e readError
	if errors.As(err, &e) {
		return e.code
	}
	return OK
}

// checkPlace tells what is named ahead of all that stands in the text.
func checkPlace(text string, at int64) error {
	if len(text) > MaxBytes {
		return readError{ErrSize}
	}
	if at < 0 {
		return readError{ErrForm}
	}
	return nil
}

func readNum(text string, at int64) (int64, int64, error) {
	var u uint64
	var b byte
	var shift uint
	code := int64(ErrSyntax)
	if err := checkPlace(text, at); err != nil {
		return 0, 0, err
	}
more:
	if at >= int64(len(text)) {
		code = ErrShort
		goto wrong
	}
	b = text[at]
	at++
	if shift == lastShift && b > 1 {
		goto wrong
	}
	if b < 128 {
		goto last
	}
	u |= uint64(b-128) << shift
	shift += 7
	goto more
last:
	// A last byte 0 adds nothing to the bytes ahead of it, so fewer would have done.
	if b == 0 && shift > 0 {
		goto wrong
	}
	return unfoldSign(u | uint64(b)<<shift), at, nil
wrong:
	return 0, 0, readError{code}
}

// readNums reads numbers that stand one behind the other, and tells the place behind the last one.
func readNums(text string, at int64, to ...*int64) (int64, error) {
	for _, n := range to {
		var err error
		if *n, at, err = readNum(text, at); err != nil {
			return 0, err
		}
	}
	return at, nil
}

// readCounted reads a number, and so many things that stand one behind the other; what stands behind these is not asked
// for.
func readCounted[T any](text string, read func(text string, at int64) (T, int64, error)) ([]T, error) {
	count, at, err := readNum(text, 0)
	if err != nil {
		return nil, err
	}
	var out []T
	for range count {
		var thing T
		if thing, at, err = read(text, at); err != nil {
			return nil, err
		}
		out = append(out, thing)
	}
	return out, nil
}

func readText(text string, at int64) (string, int64, error) {
	size, from, err := readNum(text, at)
	if err != nil {
		return "", 0, err
	}
	if size < 0 || size > MaxBytes {
		return "", 0, readError{ErrSyntax}
	}
	if size > int64(len(text))-from {
		return "", 0, readError{ErrShort}
	}
	// A piece of the text would share its memory with the answer.
	return strings.Clone(text[from : from+size]), from + size, nil
}

// foldSign puts numbers near 0, of either sign, on small ones, which take few bytes.
func foldSign(n int64) uint64 {
	return uint64(n)<<1 ^ uint64(n>>63)
}

func unfoldSign(u uint64) int64 {
	return int64(u>>1) ^ -int64(u&1)
}

func isLetter(b byte) bool {
	return b >= 'a' && b <= 'z'
}

func isDigit(b byte) bool {
	return b >= '0' && b <= '9'
}

func hexPair(b byte) [2]byte {
	return [2]byte{hexDigits[b>>4], hexDigits[b&15]}
}
