package tests

import (
	"fmt"
	"math"
	"math/big"
	"math/rand"
	"slices"
	"strings"
	"sync"
	"testing"

	"loop.example/g00259/impl"
)

const (
	window     = impl.FingerWindow
	mostFinger = 1<<31 - 1
)

// bitFinger takes bit by bit, the highest first, and takes FingerPoly away as soon as x^31 is there.
func bitFinger(text string) int64 {
	f := int64(0)
	for i := range len(text) {
		for bit := 7; bit >= 0; bit-- {
			f = f<<1 | int64(text[i]>>bit&1)
			if f>>31 == 1 {
				f ^= 1<<31 + 1<<3 + 1
			}
		}
	}
	return f
}

// divided has the whole text as one polynomial, and divides it as on paper.
func divided(text string) int64 {
	rest := new(big.Int).SetBytes([]byte(text))
	poly := big.NewInt(1<<31 + 1<<3 + 1)
	for rest.BitLen() > 31 {
		rest.Xor(rest, new(big.Int).Lsh(poly, uint(rest.BitLen()-32)))
	}
	return rest.Int64()
}

// windowFingers has at each place from FingerWindow on the finger of the window ahead of it.
func windowFingers(text string) []int64 {
	l := make([]int64, len(text)+1)
	for n := window; n <= len(text); n++ {
		l[n] = bitFinger(text[n-window : n])
	}
	return l
}

// searched is the length of the piece that begins at that place, among the fingers of all places of a text.
func searched(c impl.Cutting, fingers []int64, from int) int {
	left := len(fingers) - 1 - from
	for n := int(c.Min); n <= int(c.Max) && n <= left; n++ {
		if fingers[from+n]%(1<<c.Bits) == 1<<c.Bits-1 {
			return n
		}
	}
	return min(int(c.Max), left)
}

func wantCut(c impl.Cutting, text string) int {
	return searched(c, windowFingers(text), 0)
}

func wantPieces(c impl.Cutting, text string) []string {
	var l []string
	fingers := windowFingers(text)
	for at := 0; at < len(text); {
		n := searched(c, fingers, at)
		l = append(l, text[at:at+n])
		at += n
	}
	return l
}

// setFinger gives the window ahead of n that finger, by its last four bytes: what is added to these is added to it.
func setFinger(text string, n int, finger int64) string {
	b := []byte(text)
	add := bitFinger(text[n-window:n]) ^ finger
	for i := range 4 {
		b[n-1-i] ^= byte(add >> (8 * i))
	}
	return string(b)
}

// echoes is a text in which parts come again, some of them runs of one byte.
func echoes(r *rand.Rand, size int) string {
	parts := []string{strings.Repeat("\x00", 1+r.Intn(90)), strings.Repeat("\xff", 1+r.Intn(90))}
	for range 1 + r.Intn(4) {
		parts = append(parts, drawnText(r, 1+r.Intn(200)))
	}
	var out strings.Builder
	for out.Len() < size {
		out.WriteString(parts[r.Intn(len(parts))])
	}
	return out.String()[:size]
}

func drawnCutting(r *rand.Rand) impl.Cutting {
	c := impl.Cutting{Min: window + r.Int63n(985), Bits: r.Int63n(13)}
	if r.Intn(3) > 0 {
		c.Min = window + r.Int63n(50)
	}
	c.Max = c.Min + r.Int63n(2001-c.Min)
	if r.Intn(5) == 0 {
		c.Max = c.Min
	}
	return c
}

func edgeCuttings() []impl.Cutting {
	var l []impl.Cutting
	for _, least := range []int64{16, 1000} {
		for _, bits := range []int64{0, 1, 12} {
			for _, most := range []int64{least, least + 1, 2000} {
				l = append(l, impl.Cutting{Min: least, Bits: bits, Max: most})
			}
		}
	}
	return l
}

func samePieces(t *testing.T, what string, got []string, want []string) {
	t.Helper()
	if !slices.Equal(got, want) {
		t.Fatalf("%s: got %s, want %s", what, shown(got), shown(want))
	}
}

func TestChunkConstants(t *testing.T) {
	same(t, "FingerPoly", int64(impl.FingerPoly), 1<<31+1<<3+1)
	same(t, "FingerWindow", impl.FingerWindow, 16)
}

func TestFingerKnown(t *testing.T) {
	for _, k := range []struct {
		text string
		want int64
	}{
		{"", 0}, {"\x00", 0}, {"\x01", 1}, {"\x80", 128}, {"\xff", 255}, {"a", 97}, {"ab", 97*256 + 98},
		{"\x40\x00\x00\x00", 1 << 30}, {"\x7f\xff\xff\xff", mostFinger},
		{"\x80\x00\x00\x00", 9}, {"\xff\xff\xff\xff", mostFinger ^ 9}, {"\x80\x00\x00\x09", 0},
		{"\x01\x00\x00\x00\x00", 9 << 1}, {"\x80\x00\x00\x00\x00", 9 << 8},
		{"\x00\x00\x80\x00\x00\x00", 9}, {"\x00ab", 97*256 + 98},
	} {
		same(t, fmt.Sprintf("Finger of %q", k.text), impl.Finger(k.text), k.want)
	}
}

func checkFinger(t *testing.T, text string) {
	t.Helper()
	got := impl.Finger(text)
	same(t, fmt.Sprint("Finger of ", len(text)), got, bitFinger(text))
	same(t, "in bounds", got >= 0 && got <= mostFinger, true)
	same(t, "again", impl.Finger(text), got)
}

func TestFingerOfEachSize(t *testing.T) {
	r := rand.New(rand.NewSource(80))
	for size := range 41 {
		texts := []string{letters(size)}
		for _, b := range []string{"\x00", "\x01", "\x7f", "\x80", "\xff"} {
			texts = append(texts, strings.Repeat(b, size))
		}
		for range 50 {
			texts = append(texts, drawnText(r, size))
		}
		for _, text := range texts {
			checkFinger(t, text)
			same(t, "divided", impl.Finger(text), divided(text))
			for _, zeros := range []int{1, 3, 4, 16, 30} {
				same(t, "behind zeros", impl.Finger(strings.Repeat("\x00", zeros)+text), impl.Finger(text))
			}
			for _, more := range []string{"\x00", "\x80", "\xff"} {
				checkFinger(t, more+text)
				checkFinger(t, text+more)
				checkFinger(t, text+more+more+text)
			}
		}
	}
}

func TestFingerOfOneBit(t *testing.T) {
	for size := 1; size <= 40; size++ {
		for bit := range 8 * size {
			b := make([]byte, size)
			b[bit/8] = 128 >> (bit % 8)
			same(t, fmt.Sprint("bit ", bit, " of ", size), impl.Finger(string(b)), divided(string(b)))
		}
	}
}

func TestFingerOfLongTexts(t *testing.T) {
	r := rand.New(rand.NewSource(81))
	for range 150 {
		checkFinger(t, drawnText(r, r.Intn(impl.MaxBytes+1)))
	}
	for range 20 {
		text := drawnText(r, 500+r.Intn(500))
		same(t, "divided", impl.Finger(text), divided(text))
	}
	for _, size := range []int{impl.MaxBytes - 1, impl.MaxBytes} {
		for _, text := range []string{letters(size), drawnText(r, size), strings.Repeat("\xff", size), strings.Repeat("\x80", size)} {
			checkFinger(t, text)
		}
		same(t, "zeros", impl.Finger(strings.Repeat("\x00", size)), 0)
	}
}

func TestTextsTooLongForAFinger(t *testing.T) {
	full := letters(impl.MaxBytes)
	same(t, "longest", impl.Finger(full) != 0, true)
	for _, more := range []string{"\x00", "a", full} {
		same(t, "Finger", impl.Finger(full+more), 0)
	}
	// But for its length this one would have the finger 1.
	same(t, "a one behind zeros", impl.Finger(strings.Repeat("\x00", impl.MaxBytes)+"\x01"), 0)
	same(t, "just so many", impl.Finger(strings.Repeat("\x00", impl.MaxBytes-1)+"\x01"), 1)
}

// rolls goes over the text in both ways, from its first byte and from its first window on.
func rolls(t *testing.T, text string) {
	t.Helper()
	f := int64(0)
	for n := range len(text) {
		f = impl.FingerMore(f, int64(text[n]))
		same(t, fmt.Sprint("more, up to ", n), f, impl.Finger(text[:n+1]))
	}
	f = impl.Finger(text[:window])
	for n := window; n < len(text); n++ {
		f = impl.FingerRoll(f, int64(text[n-window]), int64(text[n]))
		same(t, fmt.Sprint("rolled, up to ", n), f, impl.Finger(text[n+1-window:n+1]))
		same(t, "bit by bit", f, bitFinger(text[n+1-window:n+1]))
	}
}

func TestFingersRoll(t *testing.T) {
	r := rand.New(rand.NewSource(82))
	for size := window; size < 80; size++ {
		rolls(t, drawnText(r, size))
		for _, b := range []string{"\x00", "\x01", "\x80", "\xff"} {
			rolls(t, strings.Repeat(b, size))
		}
	}
	for range 100 {
		rolls(t, drawnText(r, window+1+r.Intn(600)))
		rolls(t, echoes(r, window+1+r.Intn(600)))
	}
	for _, size := range []int{2000, 3000} {
		rolls(t, letters(size))
	}
}

func TestFingersRollToTheEndOfLongTexts(t *testing.T) {
	r := rand.New(rand.NewSource(83))
	for range 5 {
		text := drawnText(r, impl.MaxBytes-r.Intn(2))
		f := impl.Finger(text[:window])
		for n := window; n < len(text); n++ {
			f = impl.FingerRoll(f, int64(text[n-window]), int64(text[n]))
			same(t, fmt.Sprint("up to ", n), f, bitFinger(text[n+1-window:n+1]))
		}
	}
}

func TestFingerRollOfEachByte(t *testing.T) {
	r := rand.New(rand.NewSource(84))
	rest := drawnText(r, window-1)
	for out := range 256 {
		f := impl.Finger(string([]byte{byte(out)}) + rest)
		for in := range 256 {
			want := bitFinger(rest + string([]byte{byte(in)}))
			same(t, fmt.Sprint(out, " out, ", in, " in"), impl.FingerRoll(f, int64(out), int64(in)), want)
		}
	}
}

// fourBytes is a text of that finger.
func fourBytes(f int64) string {
	return string([]byte{byte(f >> 24), byte(f >> 16), byte(f >> 8), byte(f)})
}

// windowOf has that finger and first byte: there is such a window for any two.
func windowOf(f int64, out int64) string {
	return setFinger(string([]byte{byte(out)})+letters(window-1), window, f)
}

func rightFingers(r *rand.Rand) []int64 {
	l := []int64{0, 1, 2, 8, 9, 10, 127, 128, 255, 256, 1<<23 - 1, 1 << 23, 1 << 30, mostFinger - 1, mostFinger}
	for range 200 {
		l = append(l, r.Int63n(mostFinger+1))
	}
	return l
}

// wrongFingers are right ones, some of them, if less of them were looked at.
func wrongFingers() []int64 {
	return []int64{-1, -2, -9, math.MinInt32, -1 << 32, 1 << 31, 1<<31 + 1, impl.FingerPoly, 1<<32 - 1, 1 << 32, 1<<32 + 97, 1 << 62,
		math.MinInt64, math.MinInt64 + 97, math.MaxInt64}
}

func TestFingersAtTheEdges(t *testing.T) {
	r := rand.New(rand.NewSource(85))
	bytes := []int64{0, 1, 127, 128, 254, 255}
	for _, f := range rightFingers(r) {
		for _, b := range bytes {
			want := bitFinger(fourBytes(f) + string([]byte{byte(b)}))
			same(t, fmt.Sprint("FingerMore of ", f, " and ", b), impl.FingerMore(f, b), want)
			same(t, "again", impl.FingerMore(f, b), want)
			for _, in := range bytes {
				want = bitFinger(windowOf(f, b)[1:] + string([]byte{byte(in)}))
				same(t, fmt.Sprint("FingerRoll of ", f, ", ", b, ", ", in), impl.FingerRoll(f, b, in), want)
				same(t, "again", impl.FingerRoll(f, b, in), want)
			}
		}
	}
}

func TestFingersThatAreNone(t *testing.T) {
	for _, f := range wrongFingers() {
		for _, b := range []int64{0, 1, 97, 128, 255} {
			same(t, fmt.Sprint("FingerMore of ", f), impl.FingerMore(f, b), 0)
			for _, in := range []int64{0, 1, 97, 255} {
				same(t, fmt.Sprint("FingerRoll of ", f), impl.FingerRoll(f, b, in), 0)
			}
		}
	}
}

func TestFingersOfNoBytes(t *testing.T) {
	for _, no := range noBytes() {
		for _, f := range []int64{0, 1, 97, 1 << 23, mostFinger, -1, 1 << 31} {
			same(t, fmt.Sprint("FingerMore of ", f, " and ", no), impl.FingerMore(f, no), 0)
			for _, b := range []int64{0, 1, 97, 255, no} {
				same(t, fmt.Sprint("out ", no), impl.FingerRoll(f, no, b), 0)
				same(t, fmt.Sprint("in ", no), impl.FingerRoll(f, b, no), 0)
			}
		}
	}
	same(t, "bytes", impl.FingerMore(97, 255) != 0 && impl.FingerRoll(97, 255, 0) != 0 && impl.FingerRoll(97, 0, 255) != 0, true)
}

func TestCuttingRight(t *testing.T) {
	edges := []int64{math.MinInt64, math.MinInt64 + 1, -1000, -16, -1, 0, 1, 11, 12, 13, 14, 15, 16, 17, 18, 500, 999, 1000, 1001,
		1002, 1999, 2000, 2001, 1 << 31, 1<<32 + 16, math.MaxInt64 - 1, math.MaxInt64}
	count := 0
	for _, least := range edges {
		for _, bits := range edges {
			for _, most := range edges {
				want := least >= 16 && least <= 1000 && bits >= 0 && bits <= 12 && most >= least && most <= 2000
				c := impl.Cutting{Min: least, Bits: bits, Max: most}
				same(t, shown(c), impl.CuttingRight(c), want)
				same(t, shown(c)+" again", impl.CuttingRight(c), want)
				if want {
					count++
				}
			}
		}
	}
	same(t, "right ones", count > 100, true)
	same(t, "the zero one", impl.CuttingRight(impl.Cutting{}), false)
}

func TestCuttingRightByEachNumber(t *testing.T) {
	for n := int64(-5); n < 2010; n++ {
		what := fmt.Sprint(n)
		same(t, "Min "+what, impl.CuttingRight(impl.Cutting{Min: n, Bits: 3, Max: 2000}), n >= 16 && n <= 1000)
		same(t, "Bits "+what, impl.CuttingRight(impl.Cutting{Min: 16, Bits: n, Max: 64}), n >= 0 && n <= 12)
		same(t, "Max "+what, impl.CuttingRight(impl.Cutting{Min: 100, Bits: 3, Max: n}), n >= 100 && n <= 2000)
		same(t, "Min and Max "+what, impl.CuttingRight(impl.Cutting{Min: n, Bits: 3, Max: n}), n >= 16 && n <= 1000)
	}
}

func checkCut(t *testing.T, c impl.Cutting, text string) {
	t.Helper()
	what := fmt.Sprintf("CutAt of %+v, %d bytes", c, len(text))
	want := wantCut(c, text)
	same(t, what, impl.CutAt(c, text), int64(want))
	same(t, what+", again", impl.CutAt(c, text), int64(want))
}

func TestCutAtBySizes(t *testing.T) {
	r := rand.New(rand.NewSource(86))
	for _, c := range edgeCuttings() {
		least, most := int(c.Min), int(c.Max)
		for _, size := range []int{0, 1, 15, 16, 17, least - 1, least, least + 1, most - 1, most, most + 1, most + 100, 2 * most} {
			checkCut(t, c, strings.Repeat("\x00", size))
			checkCut(t, c, strings.Repeat("\xff", size))
			checkCut(t, c, letters(size))
			for range 10 {
				checkCut(t, c, drawnText(r, size))
				checkCut(t, c, echoes(r, size))
			}
		}
	}
}

func TestCutAtOfDrawnOnes(t *testing.T) {
	r := rand.New(rand.NewSource(87))
	for range 1500 {
		c := drawnCutting(r)
		checkCut(t, c, drawnText(r, r.Intn(int(c.Max)+50)))
		checkCut(t, c, echoes(r, r.Intn(int(c.Max)+50)))
	}
}

func TestCutAtWithoutBits(t *testing.T) {
	for _, least := range []int64{16, 17, 500, 1000} {
		for _, most := range []int64{least, least + 1, 2000} {
			c := impl.Cutting{Min: least, Max: most}
			for size := range int(most) + 2 {
				same(t, fmt.Sprintf("%+v, %d bytes", c, size), impl.CutAt(c, letters(size)), min(int64(size), least))
			}
		}
	}
}

// quiet has no cut of these many bits anywhere: its fingers are all 0.
func quiet(size int) string {
	return strings.Repeat("\x00", size)
}

// cutJustAt has texts of no other cut but one, and asks for it; the bits above the lowest ones may be as they like.
func cutJustAt(t *testing.T, c impl.Cutting, size int, at int, want int) {
	t.Helper()
	what := fmt.Sprintf("%+v, %d bytes, at %d", c, size, at)
	ones := int64(1)<<c.Bits - 1
	just := 0
	for _, above := range []int64{0, mostFinger &^ ones, 1 << 30, 1 << c.Bits} {
		text := setFinger(quiet(size), at, ones|above)
		checkCut(t, c, text)
		// Some other window may have a cut by chance: then it is no text of that kind.
		if wantCut(c, text) == want {
			just++
		}
	}
	same(t, what, just > 0, true)
}

func TestCutAtJustSo(t *testing.T) {
	for _, bits := range []int64{6, 11, 12} {
		for _, c := range []impl.Cutting{{Min: 16, Bits: bits, Max: 2000}, {Min: 16, Bits: bits, Max: 100}, {Min: 1000, Bits: bits, Max: 2000},
			{Min: 1000, Bits: bits, Max: 1100}, {Min: 16, Bits: bits, Max: 17}, {Min: 16, Bits: bits, Max: 16}} {
			least, most := int(c.Min), int(c.Max)
			for _, size := range []int{most, most + 1, most + 50} {
				same(t, "nowhere", impl.CutAt(c, quiet(size)), c.Max)
				for _, at := range []int{least, least + 1, (least + most) / 2, most - 1, most} {
					if at >= least && at <= most {
						cutJustAt(t, c, size, at, at)
					}
				}
			}
			cutJustAt(t, c, most+50, most+1, most)
			cutJustAt(t, c, most+50, most+40, most)
			same(t, "ends ahead", impl.CutAt(c, quiet(most-1)), c.Max-1)
			for at := window; at < least; at += 100 {
				cutJustAt(t, c, most+50, at, most)
			}
		}
	}
}

// TestCutAtAsksForAllBits has windows of which the lowest bits but one are 1: nothing else would tell a wrong mask.
func TestCutAtAsksForAllBits(t *testing.T) {
	for bits := int64(1); bits <= 12; bits++ {
		c := impl.Cutting{Min: 50, Bits: bits, Max: 50 + 1}
		ones := int64(1)<<bits - 1
		for bit := range bits {
			for _, above := range []int64{0, mostFinger &^ ones} {
				text := setFinger(letters(60), 50, ones&^(1<<bit)|above)
				same(t, fmt.Sprint(bits, " bits, without ", bit), impl.CutAt(c, text), 51)
				text = setFinger(letters(60), 50, ones|above)
				same(t, fmt.Sprint(bits, " bits"), impl.CutAt(c, text), 50)
			}
		}
	}
}

// TestCutAtTakesTheWindowAlone has cuts at Min that what stands ahead of the window does not move.
func TestCutAtTakesTheWindowAlone(t *testing.T) {
	r := rand.New(rand.NewSource(88))
	c := impl.Cutting{Min: 100, Bits: 12, Max: 101}
	cut := setFinger(drawnText(r, window), window, 1<<12-1)
	none := setFinger(drawnText(r, window), window, 1<<12-2)
	for range 200 {
		ahead, behind := drawnText(r, 100-window), drawnText(r, 1+r.Intn(10))
		same(t, "a cut", impl.CutAt(c, ahead+cut+behind), 100)
		same(t, "none", impl.CutAt(c, ahead+none+behind), 101)
	}
}

// cutWell asks for promise 9 of one text: the pieces are the text, their sizes, and the pieces behind any of them.
func cutWell(t *testing.T, c impl.Cutting, text string) {
	t.Helper()
	what := fmt.Sprintf("%+v, %d bytes", c, len(text))
	pieces := impl.Pieces(c, text)
	same(t, what+": put together", strings.Join(pieces, ""), text)
	samePieces(t, what, pieces, wantPieces(c, text))
	samePieces(t, what+": again", impl.Pieces(c, text), pieces)
	same(t, what+": none of nothing", len(pieces) == 0, text == "")
	rest := text
	for i, piece := range pieces {
		size := int64(len(piece))
		last := i == len(pieces)-1
		same(t, what+": size", size >= 1 && size <= c.Max && (last || size >= c.Min), true)
		same(t, what+": CutAt", impl.CutAt(c, rest), size)
		rest = rest[size:]
		samePieces(t, what+": behind", impl.Pieces(c, rest), pieces[i+1:])
	}
}

func TestPieces(t *testing.T) {
	r := rand.New(rand.NewSource(89))
	for range 400 {
		c := drawnCutting(r)
		cutWell(t, c, drawnText(r, r.Intn(3000)))
		cutWell(t, c, echoes(r, r.Intn(3000)))
	}
	for _, c := range edgeCuttings() {
		for _, size := range []int{0, 1, 15, 16, 17, 999, 1000, 1001, 1999, 2000, 2001, 4000} {
			cutWell(t, c, drawnText(r, size))
			cutWell(t, c, echoes(r, size))
			cutWell(t, c, letters(size))
			cutWell(t, c, strings.Repeat("\x00", size))
		}
	}
}

func TestPiecesOfLongTexts(t *testing.T) {
	r := rand.New(rand.NewSource(90))
	for _, size := range []int{impl.MaxBytes - 1, impl.MaxBytes} {
		for _, c := range []impl.Cutting{{Min: 16, Bits: 0, Max: 16}, {Min: 16, Bits: 12, Max: 2000}, {Min: 1000, Bits: 12, Max: 2000},
			{Min: 1000, Bits: 0, Max: 1000}, {Min: 64, Bits: 6, Max: 512}} {
			for _, text := range []string{drawnText(r, size), echoes(r, size)} {
				pieces := impl.Pieces(c, text)
				samePieces(t, shown(c), pieces, wantPieces(c, text))
				same(t, shown(c), impl.CutAt(c, text), int64(len(pieces[0])))
			}
		}
	}
	cutWell(t, impl.Cutting{Min: 500, Bits: 8, Max: 2000}, drawnText(r, impl.MaxBytes))
	most := impl.Pieces(impl.Cutting{Min: 16, Bits: 3, Max: 16}, letters(impl.MaxBytes))
	same(t, "more than a list that is handed in may have", len(most), impl.MaxBytes/16)
}

func TestPiecesOfTextsAlikeAtTheEnd(t *testing.T) {
	r := rand.New(rand.NewSource(91))
	c := impl.Cutting{Min: 16, Bits: 4, Max: 200}
	for range 50 {
		text := drawnText(r, 3000)
		first, second := impl.Pieces(c, drawnText(r, 300)+text), impl.Pieces(c, drawnText(r, 300)+text)
		same(t, "the last piece", first[len(first)-1], second[len(second)-1])
	}
}

func TestTextsTooLongForPieces(t *testing.T) {
	full := letters(impl.MaxBytes)
	for _, c := range edgeCuttings() {
		samePieces(t, "Pieces of the longest", impl.Pieces(c, full), wantPieces(c, full))
		same(t, "CutAt of the longest", impl.CutAt(c, full), int64(len(wantPieces(c, full)[0])))
		for _, more := range []string{"\x00", "a", full} {
			same(t, "Pieces", len(impl.Pieces(c, full+more)), 0)
			same(t, "CutAt", impl.CutAt(c, full+more), 0)
		}
	}
}

// wrongCuttings have one fault each, and two, where a field stands against another one.
func wrongCuttings() []impl.Cutting {
	l := []impl.Cutting{{}, {Min: 16}, {Max: 2000}, {Min: 15, Bits: 3, Max: 64}, {Min: 1001, Bits: 3, Max: 2000}, {Min: 16, Bits: -1, Max: 64},
		{Min: 16, Bits: 13, Max: 64}, {Min: 16, Bits: 63, Max: 64}, {Min: 16, Bits: 64, Max: 64}, {Min: 16, Bits: 3, Max: 15},
		{Min: 1000, Bits: 3, Max: 999}, {Min: 16, Bits: 3, Max: 2001}, {Min: 1001, Bits: 3, Max: 1001}}
	for _, n := range []int64{math.MinInt64, math.MaxInt64} {
		l = append(l, impl.Cutting{Min: n, Bits: 3, Max: 64}, impl.Cutting{Min: 16, Bits: n, Max: 64},
			impl.Cutting{Min: 16, Bits: 3, Max: n}, impl.Cutting{Min: n, Bits: n, Max: n})
	}
	return l
}

func TestCuttingsThatAreNotRight(t *testing.T) {
	for _, c := range wrongCuttings() {
		same(t, shown(c), impl.CuttingRight(c), false)
		for _, size := range []int{0, 1, 16, 100, 3000, impl.MaxBytes, impl.MaxBytes + 1} {
			same(t, "CutAt of "+shown(c), impl.CutAt(c, letters(size)), 0)
			same(t, "Pieces of "+shown(c), len(impl.Pieces(c, letters(size))), 0)
		}
	}
}

func TestPiecesAreNewMemory(t *testing.T) {
	for _, c := range []impl.Cutting{{Min: 16, Bits: 0, Max: 20}, {Min: 16, Bits: 3, Max: 64}, {Min: 1000, Bits: 12, Max: 2000}} {
		for _, size := range []int{1, 15, 16, 17, 100, 2000, impl.MaxBytes} {
			want := wantPieces(c, letters(size))
			text, b := soft(letters(size))
			got, again := impl.Pieces(c, text), impl.Pieces(c, text)
			cut, finger := impl.CutAt(c, text), impl.Finger(text)
			same(t, "text", string(b), letters(size))
			spoil(b)
			samePieces(t, "behind a changed text", got, want)
			clear(got[:cap(got)])
			samePieces(t, "another answer", again, want)
			same(t, "CutAt", cut, int64(len(want[0])))
			same(t, "Finger", finger, bitFinger(letters(size)))
		}
	}
}

func TestPiecesSideBySide(t *testing.T) {
	text := letters(5000)
	c := impl.Cutting{Min: 16, Bits: 3, Max: 64}
	const workers = 16
	var pieces [workers][]string
	var cuts [workers]int64
	var group sync.WaitGroup
	for i := range workers {
		group.Go(func() {
			pieces[i] = impl.Pieces(c, text[i:])
			cuts[i] = impl.CutAt(c, text[i:])
		})
	}
	group.Wait()
	for i := range workers {
		want := wantPieces(c, text[i:])
		samePieces(t, "Pieces", pieces[i], want)
		same(t, "CutAt", cuts[i], int64(len(want[0])))
	}
}
