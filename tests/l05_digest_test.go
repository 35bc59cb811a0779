package tests

import (
	"crypto/sha256"
	"encoding"
	"encoding/binary"
	"encoding/hex"
	"fmt"
	"math"
	"math/big"
	"math/rand"
	"slices"
	"strings"
	"sync"
	"testing"

	"loop.example/g00259/impl"
)

const mostHashed = 1 << 40

// blockEdges are the sizes around those at which a block, or the one that the length needs, begins.
func blockEdges() []int {
	return []int{0, 1, 2, 54, 55, 56, 57, 62, 63, 64, 65, 66, 118, 119, 120, 121, 127, 128, 129, 183, 184, 191, 192, 193}
}

func sha(text string) string {
	sum := sha256.Sum256([]byte(text))
	return string(sum[:])
}

// sameHash takes no numbers and nil for the same, as chapter 1 does.
func sameHash(t *testing.T, what string, got impl.Hash, want impl.Hash) {
	t.Helper()
	same(t, what+": size", got.Size, want.Size)
	same(t, what+": rest", got.Rest, want.Rest)
	if !slices.Equal(got.State, want.State) {
		t.Fatalf("%s: state: got %s, want %s", what, shown(got.State), shown(want.State))
	}
}

// noHash is the zero answer.
func noHash(t *testing.T, what string, got impl.Hash) {
	t.Helper()
	sameHash(t, what, got, impl.Hash{})
}

// libraryHash has the library go on from h, through the bytes as which it keeps what it is at: a mark, the state, the
// rest with zeros up to a block, and the size.
func libraryHash(t *testing.T, h impl.Hash, text string) (impl.Hash, string) {
	t.Helper()
	b := []byte("sha\x03")
	for _, n := range h.State {
		b = binary.BigEndian.AppendUint32(b, uint32(n))
	}
	b = append(b, h.Rest...)
	b = append(b, make([]byte, 64-len(h.Rest))...)
	b = binary.BigEndian.AppendUint64(b, uint64(h.Size))
	d := sha256.New()
	if err := d.(encoding.BinaryUnmarshaler).UnmarshalBinary(b); err != nil {
		t.Fatal(err)
	}
	d.Write([]byte(text))
	b, err := d.(encoding.BinaryMarshaler).MarshalBinary()
	if err != nil {
		t.Fatal(err)
	}
	var out impl.Hash
	for i := range 8 {
		out.State = append(out.State, int64(binary.BigEndian.Uint32(b[4+4*i:])))
	}
	out.Size = int64(binary.BigEndian.Uint64(b[100:]))
	out.Rest = string(b[36 : 36+out.Size%64])
	return out, string(d.Sum(nil))
}

// firstState has the first 32 bits behind the point of the square roots of the first eight primes.
func firstState() []int64 {
	var l []int64
	for _, prime := range []int64{2, 3, 5, 7, 11, 13, 17, 19} {
		n := new(big.Int).Lsh(big.NewInt(prime), 64)
		l = append(l, int64(uint32(n.Sqrt(n).Uint64())))
	}
	return l
}

func rightHash(size int64) impl.Hash {
	return impl.Hash{State: firstState(), Rest: letters(int(size % 64)), Size: size}
}

func drawnState(r *rand.Rand) []int64 {
	l := make([]int64, 8)
	for i := range l {
		l[i] = int64(r.Uint32())
		if r.Intn(6) == 0 {
			l[i] = []int64{0, 1, math.MaxInt32, 1 << 31, math.MaxUint32}[r.Intn(5)]
		}
	}
	return l
}

// drawnHash stands behind no text that anybody knows, but is right.
func drawnHash(r *rand.Rand, size int64) impl.Hash {
	return impl.Hash{State: drawnState(r), Rest: drawnText(r, int(size%64)), Size: size}
}

func inParts(parts ...string) impl.Hash {
	h := impl.HashBegin()
	for _, part := range parts {
		h = impl.HashMore(h, part)
	}
	return h
}

func TestDigestKnown(t *testing.T) {
	for _, k := range [][2]string{
		{"", "e3b0c44298fc1c149afbf4c8996fb92427ae41e4649b934ca495991b7852b855"},
		{"abc", "ba7816bf8f01cfea414140de5dae2223b00361a396177a9cb410ff61f20015ad"},
		{"abcdbcdecdefdefgefghfghighijhijkijkljklmklmnlmnomnopnopq",
			"248d6a61d20638b8e5c026930c3e6039a33ce45964ff2167f6ecedd419db06c1"},
	} {
		same(t, "digits", impl.Hex(impl.Digest(k[0])), k[1])
		same(t, "short", impl.Short(k[0]), k[1][:8])
	}
	million := slices.Repeat([]string{strings.Repeat("a", impl.MaxBytes)}, 50)
	same(t, "a million", impl.Hex(impl.HashEnd(inParts(million...))),
		"cdc76e5c9914fb9281a1c7e284d73e67f1809a48a497200e046d39ccc7112cd0")
}

func checkDigest(t *testing.T, text string) {
	t.Helper()
	want := sha(text)
	same(t, fmt.Sprint("Digest of ", len(text)), impl.Digest(text), want)
	same(t, fmt.Sprint("Short of ", len(text)), impl.Short(text), hex.EncodeToString([]byte(want))[:8])
	same(t, "first digits", impl.Short(text), impl.Hex(impl.Digest(text))[:8])
}

func TestDigestOfEachSize(t *testing.T) {
	r := rand.New(rand.NewSource(60))
	for size := range 201 {
		checkDigest(t, letters(size))
		checkDigest(t, strings.Repeat("\x00", size))
		checkDigest(t, strings.Repeat("\xff", size))
		checkDigest(t, strings.Repeat("\x80", size))
		for range 4 {
			checkDigest(t, drawnText(r, size))
		}
	}
}

func TestDigestOfLongTexts(t *testing.T) {
	r := rand.New(rand.NewSource(61))
	sizes := []int{8191, 8192, 16384, impl.MaxBytes - 33, impl.MaxBytes - 32, impl.MaxBytes - 1, impl.MaxBytes}
	for range 200 {
		sizes = append(sizes, r.Intn(impl.MaxBytes+1))
	}
	for _, size := range append(sizes, blockEdges()...) {
		checkDigest(t, drawnText(r, size))
	}
	for _, size := range sizes[:7] {
		checkDigest(t, strings.Repeat("\x00", size))
		checkDigest(t, strings.Repeat("\xff", size))
	}
}

func TestDigestNotesEachBit(t *testing.T) {
	text := letters(130)
	seen := map[string]int{impl.Digest(text): -1}
	for bit := range 8 * len(text) {
		b := []byte(text)
		b[bit/8] ^= 1 << (bit % 8)
		checkDigest(t, string(b))
		seen[impl.Digest(string(b))] = bit
	}
	same(t, "digests", len(seen), 8*len(text)+1)
}

func TestTextsTooLongForADigest(t *testing.T) {
	full := letters(impl.MaxBytes)
	checkDigest(t, full)
	for _, more := range []string{"\x00", "a", letters(64), full} {
		same(t, "Digest", impl.Digest(full+more), "")
		same(t, "Short", impl.Short(full+more), "")
		noHash(t, "HashMore", impl.HashMore(impl.HashBegin(), full+more))
	}
}

func TestHashBegin(t *testing.T) {
	sameHash(t, "HashBegin", impl.HashBegin(), impl.Hash{State: firstState()})
	same(t, "right", impl.HashRight(impl.HashBegin()), true)
	same(t, "end", impl.HashEnd(impl.HashBegin()), impl.Digest(""))
}

// takenInParts also asks that the Hash behind the parts is in each field that behind the whole.
func takenInParts(t *testing.T, parts ...string) {
	t.Helper()
	h := inParts(parts...)
	whole := strings.Join(parts, "")
	what := fmt.Sprint(len(whole), " bytes in ", len(parts), " parts")
	got := impl.HashEnd(h)
	same(t, what+": size", len(got), 32)
	same(t, what, got, sha(whole))
	same(t, what+": right", impl.HashRight(h), true)
	if len(whole) <= impl.MaxBytes {
		same(t, what+": whole", got, impl.Digest(whole))
		sameHash(t, what, h, impl.HashMore(impl.HashBegin(), whole))
	}
}

func TestDigestInTwoParts(t *testing.T) {
	r := rand.New(rand.NewSource(62))
	for _, size := range append([]int{3, 10, 100, 200}, blockEdges()...) {
		text := drawnText(r, size)
		for cut := range size + 1 {
			takenInParts(t, text[:cut], text[cut:])
			takenInParts(t, text[:cut], "", text[cut:])
		}
	}
	for range 60 {
		text := drawnText(r, r.Intn(impl.MaxBytes+1))
		cut := r.Intn(len(text) + 1)
		takenInParts(t, text[:cut], text[cut:])
	}
}

func TestDigestInThreeParts(t *testing.T) {
	r := rand.New(rand.NewSource(63))
	for range 400 {
		text := drawnText(r, r.Intn(400))
		if r.Intn(10) == 0 {
			text = drawnText(r, r.Intn(impl.MaxBytes+1))
		}
		cuts := []int{r.Intn(len(text) + 1), r.Intn(len(text) + 1)}
		slices.Sort(cuts)
		takenInParts(t, text[:cuts[0]], text[cuts[0]:cuts[1]], text[cuts[1]:])
		takenInParts(t, "", text[:cuts[0]], "", text[cuts[0]:cuts[1]], "", "", text[cuts[1]:], "")
	}
	text := drawnText(r, 130)
	for first := range len(text) + 1 {
		for second := first; second <= len(text); second++ {
			takenInParts(t, text[:first], text[first:second], text[second:])
		}
	}
}

func TestDigestInSingleBytes(t *testing.T) {
	r := rand.New(rand.NewSource(64))
	for _, size := range append([]int{200, 1000, impl.MaxBytes}, blockEdges()...) {
		text := drawnText(r, size)
		var parts, gaps []string
		for i := range size {
			parts = append(parts, text[i:i+1])
			gaps = append(gaps, "", text[i:i+1])
		}
		takenInParts(t, parts...)
		takenInParts(t, append(gaps, "")...)
	}
	takenInParts(t)
	takenInParts(t, "")
	takenInParts(t, "", "", "")
}

func TestDigestOfMoreThanACallTakes(t *testing.T) {
	r := rand.New(rand.NewSource(65))
	full := drawnText(r, impl.MaxBytes)
	takenInParts(t, full, "x")
	takenInParts(t, "x", full)
	takenInParts(t, full, full, full)
	takenInParts(t, drawnText(r, 63), full, "", full, drawnText(r, 1))
	for range 20 {
		var parts []string
		for range 2 + r.Intn(12) {
			parts = append(parts, drawnText(r, impl.MaxBytes/2+r.Intn(impl.MaxBytes/2+1)))
		}
		takenInParts(t, parts...)
	}
}

func TestHashMoreTellsEachField(t *testing.T) {
	r := rand.New(rand.NewSource(66))
	for _, ahead := range blockEdges() {
		for _, size := range blockEdges() {
			first, text := drawnText(r, ahead), drawnText(r, size)
			h, _ := libraryHash(t, impl.Hash{State: firstState()}, first)
			want, end := libraryHash(t, h, text)
			got := impl.HashMore(h, text)
			what := fmt.Sprint(ahead, " and ", size)
			sameHash(t, what, got, want)
			same(t, what+": size", got.Size, int64(ahead+size))
			same(t, what+": rest", got.Rest, (first + text)[(ahead+size)/64*64:])
			same(t, what+": end", impl.HashEnd(got), end)
		}
	}
	want := impl.HashBegin()
	for range 63 {
		want = impl.Hash{State: firstState(), Rest: want.Rest + "q", Size: want.Size + 1}
		sameHash(t, "no block yet", impl.HashMore(impl.HashBegin(), want.Rest), want)
	}
}

func TestHashMoreFromAnyState(t *testing.T) {
	r := rand.New(rand.NewSource(67))
	for i := range 3000 {
		h := drawnHash(r, r.Int63n(mostHashed-impl.MaxBytes)>>r.Intn(41))
		text := drawnText(r, r.Intn(300))
		if i%30 == 0 {
			text = drawnText(r, impl.MaxBytes-r.Intn(70)*(i%60/30))
		}
		want, end := libraryHash(t, h, text)
		got := impl.HashMore(h, text)
		sameHash(t, fmt.Sprint("from ", h.Size, " by ", len(text)), got, want)
		same(t, "right", impl.HashRight(got), true)
		same(t, "end", impl.HashEnd(got), end)
	}
}

func TestHashMoreOfNothing(t *testing.T) {
	r := rand.New(rand.NewSource(68))
	for _, size := range []int64{0, 1, 55, 56, 63, 64, 65, 127, 128, 1 << 32, mostHashed - 65, mostHashed - 64, mostHashed - 1, mostHashed} {
		h := drawnHash(r, size)
		sameHash(t, fmt.Sprint("nothing behind ", size), impl.HashMore(h, ""), h)
	}
	sameHash(t, "nothing behind nothing", impl.HashMore(impl.HashBegin(), ""), impl.HashBegin())
}

func TestHashMoreUpToTheMostSize(t *testing.T) {
	r := rand.New(rand.NewSource(69))
	for _, size := range []int64{1, 2, 55, 56, 63, 64, 65, 128, 1000, impl.MaxBytes - 1, impl.MaxBytes} {
		h := drawnHash(r, mostHashed-size)
		text := drawnText(r, int(size))
		want, end := libraryHash(t, h, text)
		got := impl.HashMore(h, text)
		sameHash(t, fmt.Sprint("just so, by ", size), got, want)
		same(t, "size", got.Size, int64(mostHashed))
		same(t, "rest", got.Rest, "")
		same(t, "end", impl.HashEnd(got), end)
		sameHash(t, "one more behind it", impl.HashMore(got, "x"), want)
		near := drawnHash(r, mostHashed-size+1)
		sameHash(t, fmt.Sprint("one more, by ", size), impl.HashMore(near, text), near)
	}
	most := drawnHash(r, mostHashed)
	for _, size := range []int{1, 63, 64, 65, impl.MaxBytes} {
		sameHash(t, "behind the most", impl.HashMore(most, drawnText(r, size)), most)
	}
}

func TestHashMoreLooksForLongTextsFirst(t *testing.T) {
	r := rand.New(rand.NewSource(70))
	full := drawnText(r, impl.MaxBytes)
	h := drawnHash(r, 1000)
	want, _ := libraryHash(t, h, full)
	sameHash(t, "longest", impl.HashMore(h, full), want)
	noHash(t, "one more", impl.HashMore(h, full+"x"))
	noHash(t, "one more, too many in all", impl.HashMore(drawnHash(r, mostHashed), full+"x"))
	for _, wrong := range wrongHashes() {
		sameHash(t, "longest, not right", impl.HashMore(wrong, full), wrong)
		noHash(t, "one more, not right", impl.HashMore(wrong, full+"x"))
	}
}

// wrongNumbers are none of 32 bits; some would be, if less of them were looked at.
func wrongNumbers() []int64 {
	return []int64{-1, -2, math.MinInt32, -1 << 32, -1<<32 + 1, 1 << 32, 1<<32 + 1, 1 << 62, math.MinInt64, math.MinInt64 + 1, math.MaxInt64}
}

// wrongHashes have one fault each.
func wrongHashes() []impl.Hash {
	l := []impl.Hash{{}, {Size: 64}, {Rest: "abc", Size: 3}, {State: []int64{}, Size: 1 << 20}}
	for _, count := range []int{1, 7, 9, 16, impl.MaxList, impl.MaxList + 1, impl.MaxBytes + 1} {
		h := rightHash(70)
		h.State = slices.Repeat([]int64{5, 6}, count)[:count]
		l = append(l, h)
	}
	for place := range 8 {
		for _, n := range wrongNumbers() {
			h := rightHash(70)
			h.State[place] = n
			l = append(l, h)
		}
	}
	for _, size := range []int64{0, 1, 6, 63, 64, 65, 1 << 32, mostHashed - 1, mostHashed} {
		need := int(size % 64)
		for _, other := range []int{0, need - 1, need + 1, need + 64, 63, 64, 65, 128, impl.MaxBytes + 1} {
			if other >= 0 && other != need {
				l = append(l, impl.Hash{State: firstState(), Rest: letters(other), Size: size})
			}
		}
	}
	for _, size := range []int64{-1, -2, -63, -64, -65, -128, mostHashed + 1, mostHashed + 63, mostHashed + 64, 1 << 41, math.MinInt64,
		math.MinInt64 + 1, math.MinInt64 + 64, math.MaxInt64, math.MaxInt64 - 63} {
		for _, rest := range []int64{0, size & 63, size % 64} {
			if rest >= 0 {
				l = append(l, impl.Hash{State: firstState(), Rest: letters(int(rest)), Size: size})
			}
		}
	}
	return l
}

func TestHashRight(t *testing.T) {
	for _, size := range []int64{0, 1, 2, 62, 63, 64, 65, 127, 128, 1 << 20, 1 << 32, 1<<32 + 63, mostHashed - 64,
		mostHashed - 63, mostHashed - 1, mostHashed} {
		same(t, fmt.Sprint("size ", size), impl.HashRight(rightHash(size)), true)
	}
	for size := range int64(200) {
		for rest := range 70 {
			h := rightHash(size)
			h.Rest = letters(rest)
			same(t, fmt.Sprint("rest of ", rest, " for ", size), impl.HashRight(h), rest == int(size)%64)
		}
	}
	for count := range 20 {
		h := impl.Hash{State: make([]int64, count, 20)}
		same(t, fmt.Sprint(count, " numbers"), impl.HashRight(h), count == 8)
	}
	for place := range 8 {
		for _, n := range []int64{0, 1, math.MaxInt32, 1 << 31, math.MaxUint32 - 1, math.MaxUint32} {
			h := rightHash(70)
			h.State[place] = n
			same(t, fmt.Sprint(n, " at ", place), impl.HashRight(h), true)
		}
	}
}

func TestHashesThatAreNotRight(t *testing.T) {
	for _, h := range wrongHashes() {
		what := shown(h)
		same(t, what, impl.HashRight(h), false)
		same(t, "HashEnd of "+what, impl.HashEnd(h), "")
		for _, text := range []string{"", "a", letters(57), letters(58), letters(64), letters(200)} {
			sameHash(t, "HashMore of "+what, impl.HashMore(h, text), h)
		}
	}
}

func TestHashEndFromAnyState(t *testing.T) {
	r := rand.New(rand.NewSource(71))
	sizes := []int64{1 << 20, 1<<29 - 1, 1 << 29, 1<<32 - 1, 1 << 32, 1<<37 + 5, mostHashed - 65, mostHashed - 64, mostHashed - 9,
		mostHashed - 8, mostHashed - 1, mostHashed}
	for _, size := range blockEdges() {
		sizes = append(sizes, int64(size))
	}
	for range 2000 {
		sizes = append(sizes, r.Int63n(mostHashed+1)>>r.Intn(41))
	}
	for _, size := range sizes {
		h := drawnHash(r, size)
		_, want := libraryHash(t, h, "")
		got := impl.HashEnd(h)
		same(t, fmt.Sprint("end of ", size), got, want)
		same(t, "bytes", len(got), 32)
	}
	for _, n := range []int64{0, math.MaxUint32} {
		h := impl.Hash{State: slices.Repeat([]int64{n}, 8)}
		_, want := libraryHash(t, h, "")
		same(t, fmt.Sprint("all ", n), impl.HashEnd(h), want)
	}
}

func copiedHash(h impl.Hash) impl.Hash {
	return impl.Hash{State: slices.Clone(h.State), Rest: strings.Clone(h.Rest), Size: h.Size}
}

// hashKeepsApart has h's state in a greater room, and its rest and the text over bytes, and changes them all behind
// the call.
func hashKeepsApart(t *testing.T, h impl.Hash, text string) {
	t.Helper()
	room := append(slices.Clone(h.State), 77, 78, 79)
	before := slices.Clone(room)
	rest, restBytes := soft(h.Rest)
	more, moreBytes := soft(text)
	given := impl.Hash{State: room[:len(h.State)], Rest: rest, Size: h.Size}
	want := copiedHash(impl.HashMore(h, text))
	right, end := impl.HashRight(given), impl.HashEnd(given)
	got, again := impl.HashMore(given, more), impl.HashMore(given, more)
	what := fmt.Sprint(len(h.State), " numbers, ", h.Size, " and ", len(text))
	same(t, what+": state handed in", slices.Equal(room, before), true)
	same(t, what+": rest handed in", string(restBytes), h.Rest)
	same(t, what+": text handed in", string(moreBytes), text)
	for i := range got.State[:cap(got.State)] {
		got.State[:cap(got.State)][i] = -9
	}
	same(t, what+": state behind a changed answer", slices.Equal(room, before), true)
	sameHash(t, what+": another answer", again, want)
	spoil(restBytes)
	spoil(moreBytes)
	clear(room)
	sameHash(t, what+": answer behind changed arguments", again, want)
	same(t, what+": rest", got.Rest, want.Rest)
	same(t, what+": right", right, impl.HashRight(h))
	same(t, what+": end", end, impl.HashEnd(h))
}

func TestHashKeepsApart(t *testing.T) {
	r := rand.New(rand.NewSource(72))
	for _, size := range []int64{0, 1, 63, 64, 100, mostHashed - 100, mostHashed - 1, mostHashed} {
		for _, more := range []int{0, 1, 28, 36, 63, 64, 65, 100, 128, impl.MaxBytes, impl.MaxBytes + 1} {
			hashKeepsApart(t, drawnHash(r, size), drawnText(r, more))
		}
	}
	for _, h := range wrongHashes() {
		hashKeepsApart(t, h, "")
		hashKeepsApart(t, h, letters(70))
	}
}

func TestHashBeginIsNewMemory(t *testing.T) {
	want := impl.Hash{State: firstState()}
	first, second := impl.HashBegin(), impl.HashBegin()
	first.State = first.State[:cap(first.State)]
	clear(first.State)
	sameHash(t, "an earlier answer", second, want)
	sameHash(t, "the next answer", impl.HashBegin(), want)
	h := impl.HashMore(impl.HashBegin(), "")
	clear(h.State[:cap(h.State)])
	sameHash(t, "behind an answer of HashMore", impl.HashBegin(), want)
	checkDigest(t, "abc")
}

func TestDigestKeepsWhatIsHandedIn(t *testing.T) {
	for _, size := range []int{0, 1, 55, 56, 64, 100, impl.MaxBytes} {
		text, b := soft(letters(size))
		digest, short := impl.Digest(text), impl.Short(text)
		same(t, "text", string(b), letters(size))
		spoil(b)
		same(t, "Digest", digest, sha(letters(size)))
		same(t, "Short", short, hex.EncodeToString([]byte(digest))[:8])
	}
}

func TestDigestsSideBySide(t *testing.T) {
	text := letters(5000)
	h := inParts(text[:70])
	const workers = 16
	var whole, parts [workers]string
	var group sync.WaitGroup
	for i := range workers {
		group.Go(func() {
			whole[i] = impl.Digest(text)
			parts[i] = impl.HashEnd(impl.HashMore(h, text[70:]))
		})
	}
	group.Wait()
	for i := range workers {
		same(t, "Digest", whole[i], sha(text))
		same(t, "HashEnd", parts[i], sha(text))
	}
}
