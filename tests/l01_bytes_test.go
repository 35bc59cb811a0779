package tests

import (
	"encoding/binary"
	"encoding/hex"
	"fmt"
	"math"
	"math/rand"
	"strings"
	"testing"
	"unsafe"

	"loop.example/g00259/impl"
)

func same[T comparable](t *testing.T, what string, got T, want T) {
	t.Helper()
	if got != want {
		t.Fatalf("%s: got %s, want %s", what, shown(got), shown(want))
	}
}

// shown leaves out most of a long text, which nobody would read.
func shown(x any) string {
	s := fmt.Sprintf("%+q", fmt.Sprintf("%+v", x))
	if len(s) > 300 {
		return s[:150] + " .. " + s[len(s)-150:]
	}
	return s
}

// letters has all bytes in turn, so that a text cut at a wrong place is another one.
func letters(size int) string {
	out := make([]byte, size)
	for i := range out {
		out[i] = byte(i*7 + i/256)
	}
	return string(out)
}

func edgeNumbers() []int64 {
	l := []int64{0, 1, -1, 2, -2, math.MaxInt64, math.MinInt64, math.MaxInt64 - 1, math.MinInt64 + 1}
	for bit := range 63 {
		p := int64(1) << bit
		l = append(l, p-1, p, p+1, -p-1, -p, -p+1)
	}
	return l
}

func someNumbers(seed int64, count int) []int64 {
	r := rand.New(rand.NewSource(seed))
	l := make([]int64, count)
	for i := range l {
		l[i] = int64(r.Uint64()) >> r.Intn(64)
	}
	return l
}

// wantNum reads as the library does, which takes more bytes than are needed, too (these are told by writing
// anew), and takes ten bytes of which none is the last one for too few.
func wantNum(text string, at int64) impl.NumOut {
	if len(text) > impl.MaxBytes {
		return impl.NumOut{Code: impl.ErrSize}
	}
	if at < 0 {
		return impl.NumOut{Code: impl.ErrForm}
	}
	rest := []byte(text[min(at, int64(len(text))):])
	n, size := binary.Varint(rest)
	if size == 0 && len(rest) < 10 {
		return impl.NumOut{Code: impl.ErrShort}
	}
	if size <= 0 || len(binary.AppendVarint(nil, n)) != size {
		return impl.NumOut{Code: impl.ErrSyntax}
	}
	return impl.NumOut{N: n, At: at + int64(size)}
}

func TestPutNumBytes(t *testing.T) {
	known := []struct {
		n    int64
		want string
	}{
		{0, "\x00"}, {-1, "\x01"}, {1, "\x02"}, {-2, "\x03"},
		{63, "\x7e"}, {-64, "\x7f"}, {64, "\x80\x01"}, {-65, "\x81\x01"},
		{8191, "\xfe\x7f"}, {-8192, "\xff\x7f"}, {8192, "\x80\x80\x01"},
		{math.MaxInt64, "\xfe\xff\xff\xff\xff\xff\xff\xff\xff\x01"},
		{math.MinInt64, "\xff\xff\xff\xff\xff\xff\xff\xff\xff\x01"},
		{1 << 61, "\x80\x80\x80\x80\x80\x80\x80\x80\x40"},
		{1 << 62, "\x80\x80\x80\x80\x80\x80\x80\x80\x80\x01"},
	}
	for _, k := range known {
		same(t, "PutNum", impl.PutNum(k.n), k.want)
	}
	for _, n := range append(edgeNumbers(), someNumbers(1, 2000)...) {
		same(t, "PutNum", impl.PutNum(n), string(binary.AppendVarint(nil, n)))
	}
}

func TestNumbersComeBack(t *testing.T) {
	for _, n := range append(edgeNumbers(), someNumbers(2, 2000)...) {
		b := impl.PutNum(n)
		same(t, "alone", impl.GetNum(b, 0), impl.NumOut{N: n, At: int64(len(b))})
		for _, ahead := range []string{"\x00", "\xff\xff", "\x80ab", strings.Repeat("\xff", 12)} {
			for _, behind := range []string{"\x00", "\x01", "\xff", "ab"} {
				at := int64(len(ahead))
				same(t, "within", impl.GetNum(ahead+b+behind, at), impl.NumOut{N: n, At: at + int64(len(b))})
			}
		}
	}
}

func TestNumbersInARow(t *testing.T) {
	l := edgeNumbers()
	var text strings.Builder
	for _, n := range l {
		text.WriteString(impl.PutNum(n))
	}
	at := int64(0)
	for _, n := range l {
		got := impl.GetNum(text.String(), at)
		same(t, "code", got.Code, int64(impl.OK))
		same(t, "number", got.N, n)
		at = got.At
	}
	same(t, "end", at, int64(text.Len()))
}

func TestGetNumFaults(t *testing.T) {
	nine := strings.Repeat("\xff", 9)
	for _, c := range []struct {
		what string
		text string
		at   int64
		code int64
	}{
		{"at below 0", "\x00", -1, impl.ErrForm},
		{"at far below 0", "\x00", math.MinInt64, impl.ErrForm},
		{"at below 0 of an empty text", "", -1, impl.ErrForm},
		{"at below 0 of no number", "\x80\x00", -1, impl.ErrForm},
		{"empty", "", 0, impl.ErrShort},
		{"at the end", "\x00", 1, impl.ErrShort},
		{"behind the end", "\x00", 2, impl.ErrShort},
		{"far behind the end", "\x00", math.MaxInt64, impl.ErrShort},
		{"2^32 behind", "\x00", 1 << 32, impl.ErrShort},
		{"no last byte", "\x80", 0, impl.ErrShort},
		{"no last byte of nine", nine, 0, impl.ErrShort},
		{"no last byte from within", "\x00\x00\xff\xff", 2, impl.ErrShort},
		{"nine bytes 128", strings.Repeat("\x80", 9), 0, impl.ErrShort},
		{"tenth byte 2", nine + "\x02", 0, impl.ErrSyntax},
		{"tenth byte 3", nine + "\x03", 0, impl.ErrSyntax},
		{"tenth byte 127", nine + "\x7f", 0, impl.ErrSyntax},
		{"tenth byte 128", nine + "\x80", 0, impl.ErrSyntax},
		{"tenth byte 129", nine + "\x81", 0, impl.ErrSyntax},
		{"tenth byte 255", nine + "\xff", 0, impl.ErrSyntax},
		{"eleven bytes", nine + "\x80\x01", 0, impl.ErrSyntax},
		{"tenth byte 2, within", "ab" + nine + "\x02cd", 2, impl.ErrSyntax},
		{"tenth byte 0", nine + "\x00", 0, impl.ErrSyntax},
		{"0 in two bytes", "\x80\x00", 0, impl.ErrSyntax},
		{"-64 in two bytes", "\xff\x00", 0, impl.ErrSyntax},
		{"64 in three bytes", "\x80\x81\x00", 0, impl.ErrSyntax},
		{"0 in ten bytes", strings.Repeat("\x80", 9) + "\x00", 0, impl.ErrSyntax},
		{"0 in two bytes, within", "ab\x80\x00cd", 2, impl.ErrSyntax},
	} {
		same(t, c.what, impl.GetNum(c.text, c.at), impl.NumOut{Code: c.code})
		same(t, "text: "+c.what, impl.GetText(c.text, c.at), impl.TextOut{Code: c.code})
	}
}

func TestGetNumOfShortTexts(t *testing.T) {
	for i := range 65536 {
		text := string([]byte{byte(i >> 8), byte(i)})
		for at := int64(-1); at < 4; at++ {
			same(t, hex.EncodeToString([]byte(text)), impl.GetNum(text, at), wantNum(text, at))
		}
	}
}

func TestGetNumOfLongTexts(t *testing.T) {
	r := rand.New(rand.NewSource(3))
	for range 50000 {
		b := make([]byte, r.Intn(14))
		for i := range b {
			b[i] = byte(r.Intn(256))
			if r.Intn(4) > 0 {
				b[i] |= 128
			} else if r.Intn(2) > 0 {
				b[i] &= 3
			}
		}
		at := int64(r.Intn(4))
		same(t, hex.EncodeToString(b), impl.GetNum(string(b), at), wantNum(string(b), at))
	}
}

func TestGetNumSize(t *testing.T) {
	full := strings.Repeat("\xff", impl.MaxBytes-2) + "\x80\x01"
	same(t, "two last bytes of the longest", impl.GetNum(full, impl.MaxBytes-2), impl.NumOut{N: 64, At: impl.MaxBytes})
	same(t, "last byte of the longest", impl.GetNum(full, impl.MaxBytes-1), impl.NumOut{N: -1, At: impl.MaxBytes})
	same(t, "end of the longest", impl.GetNum(full, impl.MaxBytes), impl.NumOut{Code: impl.ErrShort})
	for _, at := range []int64{0, 1, -1, impl.MaxBytes, impl.MaxBytes + 1, impl.MaxBytes + 2, math.MinInt64, math.MaxInt64} {
		same(t, "one more", impl.GetNum(full+"\x00", at), impl.NumOut{Code: impl.ErrSize})
		same(t, "zeros, one more", impl.GetNum(strings.Repeat("\x00", impl.MaxBytes+1), at), impl.NumOut{Code: impl.ErrSize})
	}
}

func TestPutText(t *testing.T) {
	same(t, "empty", impl.PutText(""), "\x00")
	same(t, "one", impl.PutText("\xff"), "\x02\xff")
	same(t, "63", impl.PutText(letters(63)), "\x7e"+letters(63))
	same(t, "64", impl.PutText(letters(64)), "\x80\x01"+letters(64))
	same(t, "longest", impl.PutText(letters(impl.MaxBytes)), "\xc0\xb8\x02"+letters(impl.MaxBytes))
	same(t, "one more", impl.PutText(letters(impl.MaxBytes+1)), "")
}

// fitting is the longest text whose bytes, with three of its length ahead, may still be handed in.
const fitting = impl.MaxBytes - 3

func TestTextsComeBack(t *testing.T) {
	for _, size := range []int{0, 1, 2, 3, 62, 63, 64, 65, 127, 128, 129, 255, 256, 1000, 8191, 8192, 8193, fitting / 2, fitting - 1, fitting} {
		text := letters(size)
		b := impl.PutText(text)
		same(t, "alone", impl.GetText(b, 0), impl.TextOut{Text: text, At: int64(len(b))})
		if len(b)+5 > impl.MaxBytes {
			continue
		}
		same(t, "within", impl.GetText("\xff\xff\xff"+b+"\x00z", 3), impl.TextOut{Text: text, At: int64(len(b)) + 3})
	}
}

func TestTextsThatDoNotFitIn(t *testing.T) {
	for size := fitting + 1; size <= impl.MaxBytes; size++ {
		b := impl.PutText(letters(size))
		same(t, "bytes", len(b), size+3)
		same(t, "their length", impl.GetNum(b[:3], 0), impl.NumOut{N: int64(size), At: 3})
		same(t, "too many bytes", impl.GetText(b, 0), impl.TextOut{Code: impl.ErrSize})
	}
}

func TestGetTextFaults(t *testing.T) {
	for _, c := range []struct {
		what string
		text string
		at   int64
		code int64
	}{
		{"length -1", "\x01", 0, impl.ErrSyntax},
		{"length -1 ahead of text", "\x01ab", 0, impl.ErrSyntax},
		{"length -2", "\x03abcd", 0, impl.ErrSyntax},
		{"least length", impl.PutNum(math.MinInt64), 0, impl.ErrSyntax},
		{"greatest length", impl.PutNum(math.MaxInt64), 0, impl.ErrSyntax},
		{"one above MaxBytes", impl.PutNum(impl.MaxBytes + 1), 0, impl.ErrSyntax},
		{"one above MaxBytes, within", "ab" + impl.PutNum(impl.MaxBytes+1) + "cd", 2, impl.ErrSyntax},
		{"length 2^32", impl.PutNum(1 << 32), 0, impl.ErrSyntax},
		{"length 2^32 and 1", impl.PutNum(1<<32+1) + "a", 0, impl.ErrSyntax},
		{"MaxBytes, nothing behind", impl.PutNum(impl.MaxBytes), 0, impl.ErrShort},
		{"MaxBytes, one lacking", impl.PutNum(impl.MaxBytes) + letters(fitting), 0, impl.ErrShort},
		{"nothing behind", "\x02", 0, impl.ErrShort},
		{"one lacking", "\x04a", 0, impl.ErrShort},
		{"one lacking, within", "\x04abc\x04a", 4, impl.ErrShort},
		{"at the end", "\x04ab", 3, impl.ErrShort},
		{"behind the end", "\x04ab", 4, impl.ErrShort},
		{"one byte lacks of many", impl.PutNum(100) + letters(99), 0, impl.ErrShort},
	} {
		same(t, c.what, impl.GetText(c.text, c.at), impl.TextOut{Code: c.code})
	}
}

func TestGetTextSize(t *testing.T) {
	full := strings.Repeat("\xff", impl.MaxBytes-3) + "\x04ab"
	same(t, "end of the longest", impl.GetText(full, impl.MaxBytes-3), impl.TextOut{Text: "ab", At: impl.MaxBytes})
	for _, at := range []int64{0, -1, impl.MaxBytes - 3, impl.MaxBytes + 1, impl.MaxBytes + 2, math.MinInt64, math.MaxInt64} {
		same(t, "one more", impl.GetText(full+"c", at), impl.TextOut{Code: impl.ErrSize})
	}
	same(t, "an empty one", impl.GetText("\x00", 0), impl.TextOut{At: 1})
	same(t, "an empty one at the end", impl.GetText("ab\x00", 2), impl.TextOut{At: 3})
}

func TestGetTextIsNewMemory(t *testing.T) {
	text := "\x04abcdefgh"
	got := impl.GetText(text, 0).Text
	same(t, "text", got, "ab")
	first := uintptr(unsafe.Pointer(unsafe.StringData(text)))
	at := uintptr(unsafe.Pointer(unsafe.StringData(got)))
	if at >= first && at < first+uintptr(len(text)) {
		t.Error("the answer is a piece of the argument")
	}
}

func TestNameRightBySize(t *testing.T) {
	same(t, "0 bytes", impl.NameRight(""), false)
	for size := 1; size <= 80; size++ {
		same(t, "1 to 80 bytes", impl.NameRight(strings.Repeat("b", size)), true)
	}
	for _, size := range []int{81, 82, 256 + 1, impl.MaxBytes, impl.MaxBytes + 1} {
		same(t, "more bytes", impl.NameRight(strings.Repeat("b", size)), false)
	}
	same(t, "wrong last one of 80", impl.NameRight(strings.Repeat("b", 79)+"B"), false)
}

func TestNameRightByBytes(t *testing.T) {
	const first = "abcdefghijklmnopqrstuvwxyz"
	const later = first + "0123456789-"
	for i := range 256 {
		b := string([]byte{byte(i)})
		same(t, "first "+b, impl.NameRight(b), strings.Contains(first, b))
		same(t, "first of more "+b, impl.NameRight(b+"a"), strings.Contains(first, b))
		same(t, "last "+b, impl.NameRight("a"+b), strings.Contains(later, b))
		same(t, "between "+b, impl.NameRight("z-9"+b+"a"), strings.Contains(later, b))
	}
	same(t, "letter of two bytes", impl.NameRight("a\u00e9"), false)
}

func TestHex(t *testing.T) {
	same(t, "empty", impl.Hex(""), "")
	same(t, "halves", impl.Hex("\x0a\xa0\x1f\xf1"), "0aa01ff1")
	all := letters(256)
	same(t, "all bytes", impl.Hex(all), hex.EncodeToString([]byte(all)))
	for _, size := range []int{impl.MaxBytes / 2, impl.MaxBytes/2 + 1, impl.MaxBytes - 1, impl.MaxBytes} {
		same(t, "many", impl.Hex(letters(size)), hex.EncodeToString([]byte(letters(size))))
	}
	same(t, "one more", impl.Hex(letters(impl.MaxBytes+1)), "")
}

func TestDigitsComeBack(t *testing.T) {
	for i := range 256 {
		b := string([]byte{byte(i)})
		same(t, "byte", impl.HexRead(impl.Hex(b)), impl.TextOut{Text: b})
	}
	for _, size := range []int{0, 1, 2, 3, 255, 256, 1000, impl.MaxBytes/2 - 1, impl.MaxBytes / 2} {
		same(t, "text", impl.HexRead(impl.Hex(letters(size))), impl.TextOut{Text: letters(size)})
	}
	same(t, "one more than half", impl.HexRead(impl.Hex(letters(impl.MaxBytes/2+1))), impl.TextOut{Code: impl.ErrSize})
}

func TestHexReadFaults(t *testing.T) {
	for _, text := range []string{"0", "a", "abc", "0g", "g0", "0A", "A0", "FF", "aB", "0x", " 0", "0 ", "00 11", "00\n", "-1", "+1", "00ffzz", "zz00", "00z", "\x00\x00", "0\xff", "\u0660"} {
		same(t, text, impl.HexRead(text), impl.TextOut{Code: impl.ErrSyntax})
	}
	for i := range 256 {
		b := string([]byte{byte(i)})
		want := int64(impl.ErrSyntax)
		if strings.Contains("0123456789abcdef", b) {
			want = impl.OK
		}
		same(t, "high "+b, impl.HexRead(b+"0").Code, want)
		same(t, "low "+b, impl.HexRead("0"+b).Code, want)
	}
}

func TestHexReadSize(t *testing.T) {
	full := strings.Repeat("5a", impl.MaxBytes/2)
	same(t, "longest", impl.HexRead(full), impl.TextOut{Text: strings.Repeat("Z", impl.MaxBytes/2)})
	same(t, "an odd number, longest but one", impl.HexRead(full[1:]), impl.TextOut{Code: impl.ErrSyntax})
	same(t, "wrong last digit", impl.HexRead(full[1:]+"g"), impl.TextOut{Code: impl.ErrSyntax})
	same(t, "one more", impl.HexRead(full+"5"), impl.TextOut{Code: impl.ErrSize})
	same(t, "two more", impl.HexRead(full+"5a"), impl.TextOut{Code: impl.ErrSize})
	same(t, "no digits, one more", impl.HexRead(strings.Repeat("z", impl.MaxBytes+1)), impl.TextOut{Code: impl.ErrSize})
}

func TestCodes(t *testing.T) {
	got := []int64{impl.OK, impl.ErrForm, impl.ErrSize, impl.ErrSyntax, impl.ErrShort, impl.ErrSum, impl.ErrThere,
		impl.ErrNone, impl.ErrRange, impl.ErrLost, impl.ErrFull, impl.ErrLock, impl.MaxBytes, impl.MaxList}
	for i, want := range []int64{0, 1, 2, 3, 4, 5, 7, 8, 9, 10, 11, 13, 20000, 400} {
		same(t, "constant", got[i], want)
	}
}
