package tests

import (
	"encoding/binary"
	"fmt"
	"math"
	"math/rand"
	"slices"
	"strings"
	"sync"
	"testing"

	"loop.example/g00259/impl"
)

// varint is a number's bytes, as the library puts them.
func varint(n int64) string {
	return string(binary.AppendVarint(nil, n))
}

func wantKey(b impl.Blob) string {
	return sha(varint(b.Kind) + b.Text)
}

// recordOf takes blobs that are not right, too.
func recordOf(b impl.Blob) string {
	return "B" + wantKey(b) + varint(b.Kind) + varint(int64(len(b.Text))) + b.Text
}

// recordSize is how many bytes the record of a right blob has, by its Text's.
func recordSize(size int) int {
	return 1 + 32 + 1 + len(varint(int64(size))) + size
}

func recordsOf(l []impl.Blob) string {
	var out strings.Builder
	for _, b := range l {
		out.WriteString(recordOf(b))
	}
	return out.String()
}

func wantPackRight(l []impl.Blob) bool {
	keys := map[string]bool{}
	for _, b := range l {
		if b.Kind != 1 && b.Kind != 2 || len(b.Text) > 2000 {
			return false
		}
		keys[wantKey(b)] = true
	}
	return len(l) >= 1 && len(l) <= 40 && len(keys) == len(l) && len(recordsOf(l)) <= 12000
}

// shortest reads a number of the library's that has no more bytes than it needs.
func shortest(text string) (int64, int, bool) {
	n, size := binary.Varint([]byte(text))
	return n, size, size > 0 && varint(n) == text[:size]
}

// wantEntry tells whether a record of a right blob begins there, and its entry.
func wantEntry(text string, at int) (impl.Entry, bool) {
	if len(text) < at+33 || text[at] != 66 {
		return impl.Entry{}, false
	}
	kind, more, ok := shortest(text[at+33:])
	if !ok || kind != 1 && kind != 2 {
		return impl.Entry{}, false
	}
	from := at + 33 + more
	size, more, ok := shortest(text[from:])
	from += more
	if !ok || size < 0 || size > 2000 || from+int(size) > len(text) {
		return impl.Entry{}, false
	}
	e := impl.Entry{Key: text[at+1 : at+33], Kind: kind, At: int64(from), Size: size}
	return e, wantKey(impl.Blob{Kind: kind, Text: text[from : from+int(size)]}) == e.Key
}

func wantRead(text string) impl.BlobsOut {
	if len(text) > 20000 {
		return impl.BlobsOut{Code: impl.ErrSize}
	}
	var l []impl.Blob
	for at := 0; at < len(text); {
		e, ok := wantEntry(text, at)
		if !ok {
			return impl.BlobsOut{At: int64(at), Code: impl.ErrSyntax}
		}
		at = int(e.At + e.Size)
		l = append(l, impl.Blob{Kind: e.Kind, Text: text[e.At:at]})
	}
	if !wantPackRight(l) {
		return impl.BlobsOut{Code: impl.ErrForm}
	}
	return impl.BlobsOut{Blobs: l}
}

func wantScan(text string) []impl.Entry {
	var l []impl.Entry
	for at := 0; at < len(text) && len(text) <= 20000; {
		e, ok := wantEntry(text, at)
		if !ok {
			at++
			continue
		}
		l = append(l, e)
		at = int(e.At + e.Size)
	}
	return l
}

func wantGet(text string, e impl.Entry) impl.BlobOut {
	if len(text) > 20000 {
		return impl.BlobOut{Code: impl.ErrSize}
	}
	if e.At < 0 || e.At > 20000 || e.Size < 0 || e.Size > 2000 || e.At+e.Size > int64(len(text)) {
		return impl.BlobOut{Code: impl.ErrRange}
	}
	b := impl.Blob{Kind: e.Kind, Text: text[e.At : e.At+e.Size]}
	if b.Kind != 1 && b.Kind != 2 || wantKey(b) != e.Key {
		return impl.BlobOut{Code: impl.ErrSum}
	}
	return impl.BlobOut{Blob: b}
}

// sameBlobs takes no blobs and nil for the same, as chapter 1 does.
func sameBlobs(t *testing.T, what string, got impl.BlobsOut, want impl.BlobsOut) {
	t.Helper()
	same(t, what+": code", got.Code, want.Code)
	same(t, what+": at", got.At, want.At)
	if !slices.Equal(got.Blobs, want.Blobs) {
		t.Fatalf("%s: got %s, want %s", what, shown(got.Blobs), shown(want.Blobs))
	}
}

func sameEntries(t *testing.T, what string, got []impl.Entry, want []impl.Entry) {
	t.Helper()
	if !slices.Equal(got, want) {
		t.Fatalf("%s: got %s, want %s", what, shown(got), shown(want))
	}
}

// checkRead also asks that a text that is read is what its pack has for bytes.
func checkRead(t *testing.T, text string) {
	t.Helper()
	what := fmt.Sprintf("PackRead of %d bytes", len(text))
	got := impl.PackRead(text)
	sameBlobs(t, what, got, wantRead(text))
	sameBlobs(t, what+", again", impl.PackRead(text), got)
	if got.Code == impl.OK {
		same(t, what+": bytes", impl.PackBytes(got.Blobs), text)
		same(t, what+": right", impl.PackRight(got.Blobs), true)
	}
}

func checkScan(t *testing.T, text string) {
	t.Helper()
	what := fmt.Sprintf("PackScan of %d bytes", len(text))
	got := impl.PackScan(text)
	sameEntries(t, what, got, wantScan(text))
	sameEntries(t, what+", again", impl.PackScan(text), got)
	for _, e := range got {
		same(t, what+": got", impl.PackGet(text, e), impl.BlobOut{Blob: impl.Blob{Kind: e.Kind, Text: text[e.At : e.At+e.Size]}})
	}
}

func checkPack(t *testing.T, what string, l []impl.Blob) {
	t.Helper()
	right, text := wantPackRight(l), ""
	if right {
		text = recordsOf(l)
	}
	same(t, what+": right", impl.PackRight(l), right)
	same(t, what+": bytes", impl.PackBytes(l), text)
	same(t, what+": right, again", impl.PackRight(l), right)
	same(t, what+": bytes, again", impl.PackBytes(l), text)
}

func checkGet(t *testing.T, text string, e impl.Entry) {
	t.Helper()
	what := fmt.Sprintf("PackGet of %d bytes, %s", len(text), shown(e))
	want := wantGet(text, e)
	same(t, what, impl.PackGet(text, e), want)
	same(t, what+", again", impl.PackGet(text, e), want)
}

// someBlobs have as many keys as there are of them.
func someBlobs(count int) []impl.Blob {
	var l []impl.Blob
	for i := range count {
		l = append(l, impl.Blob{Kind: 1 + int64(i%2), Text: letters(1 + i/2)})
	}
	return l
}

// emptiest are as many blobs of short texts as one byte and none can tell apart.
func emptiest() []impl.Blob {
	l := []impl.Blob{{Kind: 1}, {Kind: 2}}
	for b := range 256 {
		for kind := int64(1); kind <= 2; kind++ {
			l = append(l, impl.Blob{Kind: kind, Text: string([]byte{byte(b)})})
		}
	}
	return l
}

func drawnBlob(r *rand.Rand) impl.Blob {
	b := impl.Blob{Kind: 1 + r.Int63n(2)}
	switch r.Intn(6) {
	case 0:
		b.Text = drawnText(r, r.Intn(3))
	case 1:
		b.Text = drawnText(r, 60+r.Intn(10))
	case 2:
		b.Text = drawnText(r, r.Intn(2001))
	case 3:
		b.Text = strings.Repeat("B", r.Intn(200))
	default:
		b.Text = drawnText(r, r.Intn(100))
	}
	return b
}

// drawnPack is right.
func drawnPack(r *rand.Rand) []impl.Blob {
	var l []impl.Blob
	left, keys := impl.MaxPack, map[string]bool{}
	count := 1 + r.Intn(40)
	for range count {
		b := drawnBlob(r)
		if size := recordSize(len(b.Text)); size <= left && !keys[wantKey(b)] {
			keys[wantKey(b)] = true
			left -= size
			l = append(l, b)
		}
	}
	return l
}

func TestPackConstants(t *testing.T) {
	same(t, "MaxBlobs", impl.MaxBlobs, 40)
	same(t, "MaxBlob", impl.MaxBlob, 2000)
	same(t, "MaxPack", impl.MaxPack, 12000)
	same(t, "KindData", impl.KindData, 1)
	same(t, "KindTree", impl.KindTree, 2)
}

func wrongKinds() []int64 {
	return []int64{0, 3, 4, -1, -2, 256, 257, 258, 1<<32 + 1, 1<<32 + 2, math.MinInt64, math.MinInt64 + 1, math.MaxInt64}
}

func TestBlobRight(t *testing.T) {
	for _, kind := range append(wrongKinds(), 1, 2) {
		for _, size := range []int{0, 1, 1999, 2000, 2001, 2002, impl.MaxBytes, impl.MaxBytes + 1} {
			b := impl.Blob{Kind: kind, Text: letters(size)}
			want := (kind == 1 || kind == 2) && size <= 2000
			same(t, fmt.Sprintf("kind %d, %d bytes", kind, size), impl.BlobRight(b), want)
			same(t, fmt.Sprintf("kind %d, %d bytes, again", kind, size), impl.BlobRight(b), want)
		}
	}
	same(t, "the zero one", impl.BlobRight(impl.Blob{}), false)
}

func TestBlobKey(t *testing.T) {
	r := rand.New(rand.NewSource(92))
	sizes := []int{0, 1, 2, 53, 54, 55, 62, 63, 64, 1998, 1999, 2000}
	for range 100 {
		sizes = append(sizes, r.Intn(2001))
	}
	for _, size := range sizes {
		for _, text := range []string{letters(size), drawnText(r, size), strings.Repeat("\x00", size)} {
			for kind := int64(1); kind <= 2; kind++ {
				want := sha(string([]byte{byte(2 * kind)}) + text)
				b := impl.Blob{Kind: kind, Text: text}
				same(t, fmt.Sprintf("kind %d, %d bytes", kind, size), impl.BlobKey(b), want)
				same(t, fmt.Sprintf("kind %d, %d bytes, again", kind, size), impl.BlobKey(b), want)
			}
		}
	}
	for _, kind := range wrongKinds() {
		for _, size := range []int{0, 1, 2000, 2001} {
			same(t, fmt.Sprint("kind ", kind), impl.BlobKey(impl.Blob{Kind: kind, Text: letters(size)}), "")
		}
	}
	for _, size := range []int{2001, 2002, impl.MaxBytes, impl.MaxBytes + 1} {
		same(t, "a long one", impl.BlobKey(impl.Blob{Kind: 1, Text: letters(size)}), "")
	}
}

func TestPackKnown(t *testing.T) {
	l := []impl.Blob{{Kind: 1, Text: "hello"}, {Kind: 2, Text: letters(64)}}
	want := "B" + sha("\x02hello") + "\x02\x0ahello" + "B" + sha("\x04"+letters(64)) + "\x04\x80\x01" + letters(64)
	same(t, "bytes", impl.PackBytes(l), want)
	same(t, "right", impl.PackRight(l), true)
	sameBlobs(t, "read", impl.PackRead(want), impl.BlobsOut{Blobs: l})
	sameEntries(t, "scanned", impl.PackScan(want), []impl.Entry{
		{Key: sha("\x02hello"), Kind: 1, At: 35, Size: 5}, {Key: sha("\x04" + letters(64)), Kind: 2, At: 76, Size: 64}})
}

func TestPacksOfEachCount(t *testing.T) {
	for _, count := range []int{0, 1, 2, 39, 40, 41, 42, 80, 400, 401, 500} {
		for _, l := range [][]impl.Blob{someBlobs(count), emptiest()[:count]} {
			checkPack(t, fmt.Sprint(count, " blobs"), l)
			same(t, fmt.Sprint(count, " blobs"), impl.PackRight(l), count >= 1 && count <= 40)
		}
	}
	checkPack(t, "nil", nil)
}

func TestPacksOfOneKeyTwice(t *testing.T) {
	for _, count := range []int{2, 3, 10, 40} {
		for first := range count {
			for second := first + 1; second < count; second++ {
				if count == 40 && second != first+1 && (first != 0 || second != 39) {
					continue
				}
				l := someBlobs(count)
				l[second] = l[first]
				checkPack(t, fmt.Sprint(first, " and ", second, " of ", count), l)
				same(t, "one twice", impl.PackRight(l), false)
				l[second].Kind = 3 - l[first].Kind
				l[second].Text += "!"
				l[first].Text += "!"
				checkPack(t, fmt.Sprint(first, " and ", second, " of ", count, " by kind"), l)
				same(t, "one Text of both kinds", impl.PackRight(l), true)
			}
		}
	}
	checkPack(t, "one alone", []impl.Blob{{Kind: 1}, {Kind: 1}})
	checkPack(t, "two kinds", []impl.Blob{{Kind: 1}, {Kind: 2}})
	same(t, "two kinds", impl.PackRight([]impl.Blob{{Kind: 1}, {Kind: 2}}), true)
}

// fullPack has blobs of all but the last one's size, and a last one with which there are that many bytes.
func fullPack(r *rand.Rand, bytes int, each int) []impl.Blob {
	var l []impl.Blob
	for left := bytes; ; left -= recordSize(each) {
		for size := range 2001 {
			if recordSize(size) == left {
				return append(l, impl.Blob{Kind: 1, Text: drawnText(r, size)})
			}
		}
		l = append(l, impl.Blob{Kind: 1 + int64(len(l)%2), Text: drawnText(r, each)})
	}
}

func TestPacksOfMostBytes(t *testing.T) {
	r := rand.New(rand.NewSource(93))
	for _, each := range []int{2000, 1999, 500, 300} {
		for _, bytes := range []int{impl.MaxPack - 1, impl.MaxPack, impl.MaxPack + 1, impl.MaxPack + 2} {
			l := fullPack(r, bytes, each)
			same(t, "bytes", len(recordsOf(l)), bytes)
			for range 2 {
				checkPack(t, fmt.Sprint(bytes, " bytes"), l)
				same(t, fmt.Sprint(bytes, " bytes"), impl.PackRight(l), bytes <= impl.MaxPack)
				checkRead(t, recordsOf(l))
				slices.Reverse(l)
			}
		}
	}
	var most []impl.Blob
	for range 40 {
		most = append(most, impl.Blob{Kind: 1, Text: drawnText(r, 264)})
	}
	checkPack(t, "40 blobs of 12000 bytes", most)
	same(t, "40 blobs of 12000 bytes", impl.PackRight(most), true)
	most[39].Text += "!"
	checkPack(t, "40 blobs of 12001 bytes", most)
	same(t, "40 blobs of 12001 bytes", impl.PackRight(most), false)
}

func TestPacksWithABlobThatIsNotRight(t *testing.T) {
	wrong := []impl.Blob{{}, {Kind: 1, Text: letters(2001)}, {Kind: 2, Text: letters(2001)}, {Kind: 1, Text: letters(impl.MaxBytes + 1)}}
	for _, kind := range wrongKinds() {
		wrong = append(wrong, impl.Blob{Kind: kind, Text: "a"})
	}
	for _, b := range wrong {
		for _, count := range []int{1, 2, 3, 4, 40} {
			for _, at := range []int{0, 1, count / 2, count - 1} {
				l := someBlobs(count)
				l[at%count] = b
				checkPack(t, fmt.Sprintf("kind %d, %d bytes, at %d of %d", b.Kind, len(b.Text), at, count), l)
				same(t, "right", impl.PackRight(l), false)
			}
		}
	}
}

// Promise 10.
func TestPacksComeBack(t *testing.T) {
	r := rand.New(rand.NewSource(94))
	for range 300 {
		l := drawnPack(r)
		checkPack(t, "drawn", l)
		same(t, "right", impl.PackRight(l), true)
		sameBlobs(t, "back", impl.PackRead(impl.PackBytes(l)), impl.BlobsOut{Blobs: l})
	}
	for count := 1; count <= 40; count++ {
		l := someBlobs(count)
		sameBlobs(t, "back", impl.PackRead(impl.PackBytes(l)), impl.BlobsOut{Blobs: l})
	}
	for _, size := range []int{0, 1, 62, 63, 64, 65, 1999, 2000} {
		l := []impl.Blob{{Kind: 2, Text: drawnText(r, size)}}
		sameBlobs(t, "back", impl.PackRead(impl.PackBytes(l)), impl.BlobsOut{Blobs: l})
	}
}

// Promise 10, from the other side: checkRead asks for the bytes of what is told.
func TestTextsThatMayBePacks(t *testing.T) {
	r := rand.New(rand.NewSource(95))
	for range 200 {
		text := recordsOf(drawnPack(r))
		b := []byte(text)
		b[r.Intn(len(b))] ^= 1 << r.Intn(8)
		other := recordsOf(drawnPack(r))
		texts := []string{string(b), text[:r.Intn(len(text))], text[r.Intn(len(text)):], drawnText(r, 1+r.Intn(30)) + text,
			text + drawnText(r, 1+r.Intn(30)), drawnText(r, r.Intn(500)), "B" + drawnText(r, r.Intn(500)), text + "B", "B" + text}
		if len(text)+len(other) <= impl.MaxBytes {
			texts = append(texts, text+other, other+text, text[:r.Intn(len(text))]+other)
		}
		for _, text := range texts {
			checkRead(t, text)
			checkScan(t, text)
		}
	}
}

// threeRecords have one byte for the length of the Text, and two, and no Text at all.
func threeRecords() []impl.Blob {
	return []impl.Blob{{Kind: 1, Text: "hello"}, {Kind: 2, Text: letters(70)}, {Kind: 1}, {Kind: 2, Text: "B"}}
}

// beginsAt is where each record begins, and where the last one ends.
func beginsAt(l []impl.Blob) []int {
	places := []int{0}
	for i := range l {
		places = append(places, len(recordsOf(l[:i+1])))
	}
	return places
}

func TestPackReadCutAtEachPlace(t *testing.T) {
	l := threeRecords()
	text, places := recordsOf(l), beginsAt(l)
	for size := range len(text) + 1 {
		checkRead(t, text[:size])
		checkScan(t, text[:size])
		count, edge := slices.BinarySearch(places, size)
		want := impl.BlobsOut{Blobs: l[:count]}
		if size == 0 {
			want = impl.BlobsOut{Code: impl.ErrForm}
		} else if !edge {
			want = impl.BlobsOut{At: int64(places[count-1]), Code: impl.ErrSyntax}
		}
		sameBlobs(t, fmt.Sprint("cut to ", size), impl.PackRead(text[:size]), want)
	}
}

func TestPackReadWithEachByteChanged(t *testing.T) {
	l := threeRecords()
	text, places := recordsOf(l), beginsAt(l)
	for i := range len(text) {
		count, _ := slices.BinarySearch(places, i+1)
		for by := 1; by < 256; by++ {
			b := []byte(text)
			b[i] ^= byte(by)
			checkRead(t, string(b))
			want := impl.BlobsOut{At: int64(places[count-1]), Code: impl.ErrSyntax}
			sameBlobs(t, fmt.Sprint("changed at ", i), impl.PackRead(string(b)), want)
			if by&(by-1) == 0 {
				checkScan(t, string(b))
			}
		}
	}
}

// parts puts a record together, with whatever stands for its parts.
func parts(key string, kind string, size string, text string) string {
	return "B" + key + kind + size + text
}

// noRecords are texts at whose start no record of a right blob begins; each is one, but for one fault.
func noRecords() []string {
	long, one := letters(2001), sha("\x02a")
	l := []string{
		// Numbers of more bytes than they need, with the key as it is, and with one of all bytes.
		parts(one, "\x82\x00", "\x02", "a"), parts(sha("\x82\x00a"), "\x82\x00", "\x02", "a"),
		parts(one, "\x02", "\x82\x00", "a"), parts(one, "\x02", "\x82\x80\x00", "a"),
		parts(one, "\x82\x80\x80\x80\x80\x80\x80\x80\x80\x00", "\x02", "a"),
		parts(sha("\x02"), "\x02", "\x80\x00", ""), parts(one, "\x02", "\x82\x80\x80\x80\x80\x80\x80\x80\x80\x02", "a"),
		parts(one, "\x82\x80\x80\x80\x80\x80\x80\x80\x80\x80\x00", "\x02", "a"),
		// Numbers that do not end.
		parts(one, "\x82", "", ""), parts(one, "\x02", "\x82", ""), parts(one, "\x02", "", ""), parts(one, "", "", ""),
		// Lengths that are none, and one more than stands there.
		parts(sha("\x02"), "\x02", varint(-1), ""), parts(one, "\x02", varint(-1), "a"), parts(one, "\x02", varint(math.MinInt64), "a"),
		parts(one, "\x02", varint(math.MaxInt64), "a"), parts(one, "\x02", varint(1<<32+1), "a"),
		parts(sha("\x02"+long), "\x02", varint(2001), long),
		parts(one, "\x02", varint(2), "a"), parts(one, "\x02", varint(2000), "a"), parts(one, "\x02", varint(impl.MaxBytes), "a"),
		parts(one, "\x02", varint(0), ""),
		// Keys of something else.
		parts(sha("a"), "\x02", "\x02", "a"), parts(sha("\x01a"), "\x02", "\x02", "a"), parts(sha("\x04a"), "\x02", "\x02", "a"),
		parts(one, "\x04", "\x02", "a"), parts(one, "\x02", "\x02", "b"), parts(sha("\x02\x02a"), "\x02", "\x02", "a"),
		parts(strings.Repeat("\x00", 32), "\x02", "\x02", "a"), parts(one[:31], "\x02", "\x02", "a"), parts(one+"\x00", "\x02", "\x02", "a"),
		parts("", "\x02", "\x02", "a"), parts(impl.Hex(one), "\x02", "\x02", "a"),
		// Other marks, and what ends ahead of all else.
		"b" + parts(one, "\x02", "\x02", "a")[1:], "A" + parts(one, "\x02", "\x02", "a")[1:], "\x00" + parts(one, "\x02", "\x02", "a")[1:],
		parts(one, "\x02", "\x02", "a")[1:], "B", "BB", "B" + one[:31], " ",
	}
	for _, kind := range wrongKinds() {
		l = append(l, recordOf(impl.Blob{Kind: kind, Text: "a"}), recordOf(impl.Blob{Kind: kind}),
			parts(strings.Repeat("\x00", 32), varint(kind), "\x02", "a"))
	}
	return l
}

func TestPackReadOfWhatIsNoRecord(t *testing.T) {
	ahead := [][]impl.Blob{nil, {{Kind: 1, Text: "hello"}}, threeRecords(), someBlobs(40), {{Kind: 1}, {Kind: 1}}, someBlobs(41)}
	for i, none := range noRecords() {
		for j, l := range ahead {
			text := recordsOf(l)
			what := fmt.Sprint("no record ", i, " behind ", j)
			sameBlobs(t, what, impl.PackRead(text+none), impl.BlobsOut{At: int64(len(text)), Code: impl.ErrSyntax})
			checkRead(t, text+none)
			checkRead(t, text+none+recordOf(impl.Blob{Kind: 2, Text: "behind"}))
		}
	}
	sameBlobs(t, "a right one", impl.PackRead(parts(sha("\x02a"), "\x02", "\x02", "a")),
		impl.BlobsOut{Blobs: []impl.Blob{{Kind: 1, Text: "a"}}})
	long := letters(2000)
	sameBlobs(t, "a long one", impl.PackRead(parts(sha("\x04"+long), "\x04", varint(2000), long)),
		impl.BlobsOut{Blobs: []impl.Blob{{Kind: 2, Text: long}}})
}

// noPacks are right blobs each, but no right pack.
func noPacks() [][]impl.Blob {
	r := rand.New(rand.NewSource(96))
	all := emptiest()
	again := append(someBlobs(39), someBlobs(1)...)
	same := slices.Repeat([]impl.Blob{{Kind: 2, Text: "same"}}, 50)
	return [][]impl.Blob{{}, {{Kind: 1}, {Kind: 1}}, {{Kind: 1, Text: "a"}, {Kind: 2, Text: "a"}, {Kind: 1, Text: "a"}}, again, same,
		someBlobs(41), all[:41], all[:400], all[:401], all, fullPack(r, impl.MaxPack+1, 2000), fullPack(r, impl.MaxPack+1, 300),
		fullPack(r, impl.MaxBytes-1, 2000), fullPack(r, impl.MaxBytes, 2000)}
}

func TestPackReadOfRecordsThatAreNoPack(t *testing.T) {
	for i, l := range noPacks() {
		text := recordsOf(l)
		what := fmt.Sprint("no pack ", i)
		same(t, what, impl.PackRight(l), false)
		same(t, what, impl.PackBytes(l), "")
		sameBlobs(t, what, impl.PackRead(text), impl.BlobsOut{Code: impl.ErrForm})
		sameBlobs(t, what, impl.PackRead(text), wantRead(text))
		checkScan(t, text)
		same(t, what, len(impl.PackScan(text)), len(l))
		if len(text) < impl.MaxBytes {
			sameBlobs(t, what+", and more", impl.PackRead(text+"B"), impl.BlobsOut{At: int64(len(text)), Code: impl.ErrSyntax})
		}
	}
}

func TestTextsTooLongForPacks(t *testing.T) {
	r := rand.New(rand.NewSource(97))
	right, all := recordsOf(threeRecords()), recordsOf(fullPack(r, impl.MaxBytes, 1500))
	e := wantScan(right)[0]
	for _, text := range []string{letters(impl.MaxBytes), strings.Repeat("B", impl.MaxBytes), right + letters(impl.MaxBytes-len(right)),
		letters(impl.MaxBytes-len(right)) + right, all} {
		same(t, "bytes", len(text), impl.MaxBytes)
		checkRead(t, text)
		checkScan(t, text)
		checkGet(t, text, e)
		for _, more := range []string{"\x00", "B", right, text} {
			sameBlobs(t, "PackRead", impl.PackRead(text+more), impl.BlobsOut{Code: impl.ErrSize})
			sameEntries(t, "PackScan", impl.PackScan(text+more), nil)
			same(t, "PackGet", impl.PackGet(text+more, e), impl.BlobOut{Code: impl.ErrSize})
		}
	}
	behind := right + letters(impl.MaxBytes-len(right))
	sameBlobs(t, "longest", impl.PackRead(behind), impl.BlobsOut{At: int64(len(right)), Code: impl.ErrSyntax})
	same(t, "longest", len(impl.PackScan(behind)), 4)
	same(t, "longest", impl.PackGet(behind, e), impl.BlobOut{Blob: threeRecords()[0]})
}

// withoutMark has drawn bytes, but no byte 66.
func withoutMark(r *rand.Rand, size int) string {
	b := []byte(drawnText(r, size))
	for i := range b {
		if b[i] == 66 {
			b[i] = byte(67 + r.Intn(189))
		}
	}
	return string(b)
}

// scannedWhole asks for promise 11 of one pack.
func scannedWhole(t *testing.T, ahead string, l []impl.Blob) {
	t.Helper()
	text := ahead + impl.PackBytes(l)
	entries := impl.PackScan(text)
	same(t, "entries", len(entries), len(l))
	at := len(ahead)
	for i, e := range entries {
		end := at + len(recordOf(l[i]))
		size := len(l[i].Text)
		same(t, "entry", e, impl.Entry{Key: impl.BlobKey(l[i]), Kind: l[i].Kind, At: int64(end - size), Size: int64(size)})
		same(t, "got", impl.PackGet(text, e), impl.BlobOut{Blob: l[i]})
		at = end
	}
	checkScan(t, text)
}

// Promise 11.
func TestPacksAreScannedWhole(t *testing.T) {
	r := rand.New(rand.NewSource(98))
	for i := range 200 {
		l := drawnPack(r)
		scannedWhole(t, "", l)
		scannedWhole(t, withoutMark(r, 1+r.Intn(40)), l)
		scannedWhole(t, withoutMark(r, r.Intn(1000)), l)
		if i < 10 {
			scannedWhole(t, withoutMark(r, impl.MaxBytes-len(recordsOf(l))), l)
		}
	}
	for count := 1; count <= 40; count++ {
		scannedWhole(t, withoutMark(r, count), someBlobs(count))
	}
}

func TestPackScanOfNoRecords(t *testing.T) {
	r := rand.New(rand.NewSource(99))
	texts := append(noRecords(), "", "B", strings.Repeat("B", 100), strings.Repeat("B", impl.MaxBytes), letters(impl.MaxBytes),
		strings.Repeat("B"+strings.Repeat("\x02", 34), 500), drawnText(r, 5000), strings.Repeat("\x00", impl.MaxBytes))
	right := recordOf(impl.Blob{Kind: 1, Text: "behind"})
	for _, text := range texts {
		checkScan(t, text)
		if len(text)+len(right) > impl.MaxBytes {
			continue
		}
		checkScan(t, text+right)
		checkScan(t, right+text)
		checkScan(t, right+text+right)
		same(t, "the one ahead", len(impl.PackScan(right+text)) > 0, true)
	}
	sameEntries(t, "the empty text", impl.PackScan(""), nil)
}

// scanned is a text, and the blobs that are to be found in it.
type scanned struct {
	what, text string
	want       []impl.Blob
}

func TestPackScanGoesOn(t *testing.T) {
	one, two := impl.Blob{Kind: 1, Text: "one"}, impl.Blob{Kind: 2, Text: letters(100)}
	within := impl.Blob{Kind: 1, Text: "xx" + recordOf(one) + recordOf(two) + "B"}
	broken := recordOf(within)
	broken = broken[:1] + "!" + broken[2:]
	for _, c := range []scanned{
		{"within another one", recordOf(within), []impl.Blob{within}},
		{"behind the outer one", recordOf(within) + recordOf(one), []impl.Blob{within, one}},
		{"within one that is broken", broken, []impl.Blob{one, two}},
		{"within one that is cut short", recordOf(within)[:len(recordOf(within))-1], []impl.Blob{one, two}},
		{"behind one that is broken", broken + recordOf(one), []impl.Blob{one, two, one}},
		{"behind the mark of one", "B" + recordOf(one), []impl.Blob{one}},
		{"behind two marks", "BB" + recordOf(one), []impl.Blob{one}},
		{"one twice", recordOf(one) + recordOf(one), []impl.Blob{one, one}},
		{"apart", "x" + recordOf(one) + "B" + recordOf(two) + "yBz", []impl.Blob{one, two}},
		{"of no Text", recordOf(impl.Blob{Kind: 1}) + recordOf(impl.Blob{Kind: 2}), []impl.Blob{{Kind: 1}, {Kind: 2}}},
	} {
		entries := impl.PackScan(c.text)
		same(t, c.what+": entries", len(entries), len(c.want))
		for i, e := range entries {
			same(t, c.what, impl.PackGet(c.text, e), impl.BlobOut{Blob: c.want[i]})
		}
		checkScan(t, c.text)
	}
	for size := range len(recordOf(two)) {
		text := recordOf(two)[:size]
		sameEntries(t, fmt.Sprint("cut short to ", size), impl.PackScan(recordOf(one)+text), wantScan(recordOf(one)))
		checkScan(t, text+recordOf(one))
		found := impl.PackScan(text + recordOf(one))
		same(t, "behind the first bytes", len(found), 1)
		same(t, "behind the first bytes", found[0].At, int64(size+35))
	}
}

func TestPackScanOfManyRecords(t *testing.T) {
	all := recordsOf(emptiest())
	same(t, "more than a list that is handed in may have", len(impl.PackScan(all)), 514)
	checkScan(t, all)
	full := strings.Repeat(recordOf(impl.Blob{Kind: 2}), impl.MaxBytes/35)
	same(t, "one again and again", len(impl.PackScan(full)), impl.MaxBytes/35)
	checkScan(t, full)
	checkRead(t, full)
}

// edgesOf are the numbers around an At or a Size of a text.
func edgesOf(size int64) []int64 {
	return []int64{-1, -2, -2000, 0, 1, 1999, 2000, 2001, 2002,
		size - 2001, size - 2000, size - 1, size, size + 1, impl.MaxBytes, impl.MaxBytes + 1, 1 << 32,
		math.MinInt64, math.MinInt64 + 1, math.MinInt64 + 2000,
		math.MaxInt64 - 2000, math.MaxInt64 - 1999, math.MaxInt64 - 1, math.MaxInt64}
}

func TestPackGetAtTheEdges(t *testing.T) {
	for _, size := range []int64{0, 1, 40, 1999, 2000, 2001, 3000, impl.MaxBytes} {
		text := letters(int(size))
		for _, at := range edgesOf(size) {
			for _, length := range edgesOf(size) {
				e := impl.Entry{Kind: 1, At: at, Size: length, Key: "none"}
				within := at >= 0 && at <= size && length >= 0 && length <= 2000 && at+length <= size
				if within {
					same(t, shown(e), impl.PackGet(text, e), impl.BlobOut{Code: impl.ErrSum})
					e.Key = sha("\x02" + text[at:at+length])
					same(t, shown(e), impl.PackGet(text, e), impl.BlobOut{Blob: impl.Blob{Kind: 1, Text: text[at : at+length]}})
				} else {
					same(t, shown(e), impl.PackGet(text, e), impl.BlobOut{Code: impl.ErrRange})
				}
				checkGet(t, text, e)
			}
		}
	}
}

func TestPackGetAtEachPlace(t *testing.T) {
	text := letters(2100)
	for at := range int64(2102) {
		for _, size := range []int64{0, 1, 100, 2000, 2001} {
			e := impl.Entry{Kind: 2, At: at, Size: size}
			if at+size <= 2100 {
				e.Key = sha("\x04" + text[at:at+size])
			}
			checkGet(t, text, e)
			same(t, shown(e), impl.PackGet(text, e).Code == impl.OK, at+size <= 2100 && size <= 2000)
		}
	}
}

func TestPackGetOfNoText(t *testing.T) {
	for _, text := range []string{"", "a", letters(35), letters(impl.MaxBytes)} {
		end := int64(len(text))
		for kind := int64(1); kind <= 2; kind++ {
			e := impl.Entry{Key: sha(varint(kind)), Kind: kind, At: end}
			same(t, "at the end", impl.PackGet(text, e), impl.BlobOut{Blob: impl.Blob{Kind: kind}})
			e.At++
			same(t, "behind the end", impl.PackGet(text, e), impl.BlobOut{Code: impl.ErrRange})
		}
	}
	same(t, "the zero one", impl.PackGet("", impl.Entry{}), impl.BlobOut{Code: impl.ErrSum})
}

func TestPackGetOfAnotherKey(t *testing.T) {
	text := recordsOf(threeRecords())
	for _, e := range wantScan(text) {
		checkGet(t, text, e)
		for _, key := range []string{"", "B", e.Key[:31], e.Key + "\x00", strings.Repeat("\x00", 32), sha(text),
			impl.Hex(e.Key), sha(text[e.At : e.At+e.Size])} {
			for _, kind := range append(wrongKinds(), 1, 2) {
				other := impl.Entry{Key: key, Kind: kind, At: e.At, Size: e.Size}
				same(t, shown(other), impl.PackGet(text, other), impl.BlobOut{Code: impl.ErrSum})
			}
		}
		for _, kind := range append(wrongKinds(), 3-e.Kind) {
			other := impl.Entry{Key: e.Key, Kind: kind, At: e.At, Size: e.Size}
			same(t, shown(other), impl.PackGet(text, other), impl.BlobOut{Code: impl.ErrSum})
			if kind != 3-e.Kind {
				other.Key = wantKey(impl.Blob{Kind: kind, Text: text[e.At : e.At+e.Size]})
				same(t, "its own key", impl.PackGet(text, other), impl.BlobOut{Code: impl.ErrSum})
			}
		}
		for i := range 32 {
			b := []byte(e.Key)
			b[i] ^= 1
			other := impl.Entry{Key: string(b), Kind: e.Kind, At: e.At, Size: e.Size}
			same(t, "a key with another bit", impl.PackGet(text, other), impl.BlobOut{Code: impl.ErrSum})
		}
	}
}

type getIn struct {
	text  string
	entry impl.Entry
}

func TestPackGetTellsTheFirstFault(t *testing.T) {
	text := recordsOf(threeRecords())
	right := func() getIn {
		return getIn{text, wantScan(text)[0]}
	}
	for _, kind := range []fault[getIn]{
		{impl.ErrSum, func(in *getIn) { in.entry.Kind = 3 }},
		{impl.ErrSum, func(in *getIn) { in.entry.Key = "" }},
		{impl.ErrSum, func(in *getIn) { in.entry.Key, in.entry.Kind = "", 0 }},
	} {
		for _, place := range []fault[getIn]{
			{impl.ErrRange, func(in *getIn) { in.entry.At = -1 }},
			{impl.ErrRange, func(in *getIn) { in.entry.Size = -1 }},
			{impl.ErrRange, func(in *getIn) { in.entry.Size = 2001 }},
			{impl.ErrRange, func(in *getIn) { in.entry.At = math.MaxInt64 }},
		} {
			size := fault[getIn]{impl.ErrSize, func(in *getIn) { in.text += letters(impl.MaxBytes) }}
			firstFault(right, []fault[getIn]{size, place, kind}, func(in getIn, code int64) {
				want := impl.BlobOut{Code: code}
				if code == impl.OK {
					want.Blob = threeRecords()[0]
				}
				same(t, "PackGet", impl.PackGet(in.text, in.entry), want)
			})
		}
	}
}

// softBlobs are blobs whose texts can be changed by who has their bytes.
func softBlobs(l []impl.Blob) ([]impl.Blob, [][]byte) {
	out, bytes := make([]impl.Blob, len(l), len(l)+10), make([][]byte, len(l))
	for i, b := range l {
		out[i].Kind = b.Kind
		out[i].Text, bytes[i] = soft(b.Text)
	}
	return out, bytes
}

func TestPacksOfBlobsAreNewMemory(t *testing.T) {
	for _, l := range [][]impl.Blob{threeRecords(), someBlobs(40), {{Kind: 1, Text: "a"}}} {
		want := recordsOf(l)
		blobs, bytes := softBlobs(l)
		room := blobs[:cap(blobs)]
		text, again, right, key := impl.PackBytes(blobs), impl.PackBytes(blobs), impl.PackRight(blobs), impl.BlobKey(blobs[0])
		if !slices.Equal(room[:len(l)], l) || slices.ContainsFunc(room[len(l):], func(b impl.Blob) bool { return b != impl.Blob{} }) {
			t.Fatal("the blobs were changed")
		}
		for _, b := range bytes {
			spoil(b)
		}
		clear(room)
		same(t, "bytes", text, want)
		same(t, "bytes, again", again, want)
		same(t, "right", right, true)
		same(t, "key", key, wantKey(l[0]))
	}
}

func TestWhatIsReadOfPacksIsNewMemory(t *testing.T) {
	for _, l := range [][]impl.Blob{threeRecords(), someBlobs(40), {{Kind: 1, Text: "a"}}, {{Kind: 2, Text: letters(2000)}}} {
		want := recordsOf(l)
		text, b := soft(want)
		got, again := impl.PackRead(text), impl.PackRead(text)
		entries, others := impl.PackScan(text), impl.PackScan(text)
		e := wantScan(want)[0]
		key, keyBytes := soft(e.Key)
		blob := impl.PackGet(text, impl.Entry{Key: key, Kind: e.Kind, At: e.At, Size: e.Size})
		same(t, "text", string(b), want)
		same(t, "key", string(keyBytes), e.Key)
		spoil(b)
		spoil(keyBytes)
		sameBlobs(t, "PackRead", got, impl.BlobsOut{Blobs: l})
		sameEntries(t, "PackScan", entries, wantScan(want))
		same(t, "PackGet", blob, impl.BlobOut{Blob: l[0]})
		clear(got.Blobs[:cap(got.Blobs)])
		clear(entries[:cap(entries)])
		sameBlobs(t, "another PackRead", again, impl.BlobsOut{Blobs: l})
		sameEntries(t, "another PackScan", others, wantScan(want))
	}
}

func TestPacksSideBySide(t *testing.T) {
	const workers = 16
	var texts [workers]string
	var read [workers]impl.BlobsOut
	var entries [workers][]impl.Entry
	var group sync.WaitGroup
	for i := range workers {
		group.Go(func() {
			texts[i] = impl.PackBytes(someBlobs(i + 1))
			read[i] = impl.PackRead(texts[i] + texts[i][:i])
			entries[i] = impl.PackScan("x" + texts[i])
		})
	}
	group.Wait()
	for i := range workers {
		want := recordsOf(someBlobs(i + 1))
		same(t, "PackBytes", texts[i], want)
		sameBlobs(t, "PackRead", read[i], wantRead(want+want[:i]))
		sameEntries(t, "PackScan", entries[i], wantScan("x"+want))
	}
}
