package tests

import (
	"encoding/hex"
	"fmt"
	"math"
	"math/bits"
	"math/rand"
	"slices"
	"strings"
	"sync"
	"testing"
	"unsafe"

	"loop.example/g00259/impl"
)

type code struct {
	k, m int64
}

func rightCodes() []code {
	var l []code
	for k := int64(1); k <= 8; k++ {
		for m := range int64(7) {
			l = append(l, code{k, m})
		}
	}
	return l
}

// wrongCodes wrap around to right ones, too, if they are taken for smaller numbers or added up.
func wrongCodes() []code {
	edges := []int64{math.MinInt64, math.MinInt64 + 1, -256, -8, -1, 0, 1, 2, 6, 7, 8, 9, 14, 257, 1 << 32, 1<<32 + 1,
		math.MaxInt64 - 1, math.MaxInt64}
	var l []code
	for _, k := range edges {
		for _, m := range edges {
			if k < 1 || k > 8 || m < 0 || m > 6 {
				l = append(l, code{k, m})
			}
		}
	}
	return l
}

// wrongTextSizes are no sizes of texts.
func wrongTextSizes() []int64 {
	return []int64{-1, -2, -8, impl.MaxBytes + 1, impl.MaxBytes + 8, 1 << 32, 1<<32 + 4, math.MaxInt64 - 7, math.MaxInt64,
		math.MinInt64, math.MinInt64 + 1}
}

func drawnText(r *rand.Rand, size int) string {
	b := make([]byte, size)
	r.Read(b)
	return string(b)
}

// fullShards are those of data that fills all of its shards, reckoned bit by bit.
func fullShards(c code, data string) []string {
	size := len(data) / int(c.k)
	var l []string
	for i := range int(c.k) {
		l = append(l, data[i*size:(i+1)*size])
	}
	for i := c.k; i < c.k+c.m; i++ {
		sum := make([]byte, size)
		for j := range c.k {
			times := bitInverse(i ^ j)
			for at := range sum {
				sum[at] ^= byte(bitProduct(times, int64(l[j][at])))
			}
		}
		l = append(l, string(sum))
	}
	return l
}

func wantShards(c code, text string) []string {
	for len(text)%int(c.k) != 0 {
		text += "\x00"
	}
	return fullShards(c, text)
}

// there has the shards that the bits of those name; the others have that text, which is nobody's.
func there(texts []string, those uint, other string) []impl.Shard {
	l := make([]impl.Shard, len(texts))
	for i, text := range texts {
		l[i] = impl.Shard{Text: other}
		if those>>i&1 == 1 {
			l[i] = impl.Shard{Have: true, Text: text}
		}
	}
	return l
}

func all(texts []string) []impl.Shard {
	return there(texts, math.MaxUint, "")
}

func wantData(t *testing.T, what string, got impl.DataOut, text string) {
	t.Helper()
	same(t, what, got, impl.DataOut{Text: text})
}

func wantTexts(t *testing.T, what string, got impl.ShardsOut, texts []string) {
	t.Helper()
	same(t, what+": code", got.Code, impl.OK)
	if !slices.Equal(got.Shards, texts) {
		t.Fatalf("%s: got %s, want %s", what, shown(got.Shards), shown(texts))
	}
}

// noShards also asks that nothing stands beside the code.
func noShards(t *testing.T, what string, got impl.ShardsOut, code int64) {
	t.Helper()
	same(t, what+": code", got.Code, code)
	same(t, what+": shards", len(got.Shards), 0)
}

func noData(t *testing.T, what string, got impl.DataOut, code int64) {
	t.Helper()
	same(t, what, got, impl.DataOut{Code: code})
}

func TestCodeConstants(t *testing.T) {
	same(t, "MaxData", impl.MaxData, 8)
	same(t, "MaxParity", impl.MaxParity, 6)
}

func TestCodeRight(t *testing.T) {
	for _, c := range rightCodes() {
		same(t, fmt.Sprint("right ", c), impl.CodeRight(c.k, c.m), true)
	}
	for _, c := range wrongCodes() {
		same(t, fmt.Sprint("wrong ", c), impl.CodeRight(c.k, c.m), false)
	}
}

func TestShardSize(t *testing.T) {
	for k := int64(1); k <= 8; k++ {
		want := int64(0)
		for size := range int64(impl.MaxBytes + 1) {
			if want*k < size {
				want++
			}
			same(t, fmt.Sprint(size, " by ", k), impl.ShardSize(k, size), want)
		}
		for _, size := range wrongTextSizes() {
			same(t, fmt.Sprint("no size ", size, " by ", k), impl.ShardSize(k, size), 0)
		}
	}
	for _, k := range []int64{math.MinInt64, -8, -1, 0, 9, 10, 256 + 1, 1<<32 + 1, math.MaxInt64} {
		for _, size := range append(wrongTextSizes(), 0, 1, 8, impl.MaxBytes) {
			same(t, fmt.Sprint(size, " by wrong ", k), impl.ShardSize(k, size), 0)
		}
	}
}

func TestEncodeKnown(t *testing.T) {
	known := []struct {
		k, m   int64
		text   string
		digits string
	}{
		{2, 1, "abcd", "6162 6364 9fe6"},
		{3, 2, "hello", "6865 6c6c 6f00 8a15 9a42"},
		{1, 2, "ab", "6162 6162 be31"},
		{4, 0, "xyz", "78 79 7a 00"},
		{8, 6, "0123456789", "3031 3233 3435 3637 3839 0000 0000 0000 f7bf 439c cbe3 43a0 9263 de1f"},
	}
	for _, x := range known {
		got := impl.Encode(x.k, x.m, x.text)
		same(t, "code", got.Code, impl.OK)
		var digits []string
		for _, shard := range got.Shards {
			digits = append(digits, hex.EncodeToString([]byte(shard)))
		}
		same(t, "Encode of "+x.text, strings.Join(digits, " "), x.digits)
	}
}

func textSizes(k int64) []int {
	l := []int{impl.MaxBytes - 1, impl.MaxBytes}
	for size := range 3*int(k) + 2 {
		l = append(l, size)
	}
	return l
}

func TestEncode(t *testing.T) {
	r := rand.New(rand.NewSource(42))
	for _, c := range rightCodes() {
		for _, size := range textSizes(c.k) {
			text := drawnText(r, size)
			got := impl.Encode(c.k, c.m, text)
			wantTexts(t, fmt.Sprint("Encode by ", c, " of ", size), got, wantShards(c, text))
			for _, shard := range got.Shards {
				same(t, "size", int64(len(shard)), impl.ShardSize(c.k, int64(size)))
			}
			same(t, "data", strings.Join(got.Shards[:c.k], "")[:size], text)
		}
		empty := impl.Encode(c.k, c.m, "")
		wantTexts(t, "empty", empty, make([]string, c.k+c.m))
	}
}

func TestEncodeParityByCells(t *testing.T) {
	r := rand.New(rand.NewSource(43))
	for _, c := range rightCodes() {
		cells := impl.Cauchy(c.k, c.m).Matrix
		shards := impl.Encode(c.k, c.m, drawnText(r, 150+r.Intn(20))).Shards
		for i := c.k; i < c.k+c.m; i++ {
			for at := range len(shards[i]) {
				sum := int64(0)
				for j := range c.k {
					sum ^= impl.FieldMul(cells.Cells[i*c.k+j], int64(shards[j][at]))
				}
				same(t, fmt.Sprint("byte ", at, " of shard ", i), int64(shards[i][at]), sum)
			}
		}
	}
}

func TestEncodeRefuses(t *testing.T) {
	for _, c := range wrongCodes() {
		for _, size := range []int{0, 1, 9, impl.MaxBytes} {
			noShards(t, fmt.Sprint("Encode by ", c), impl.Encode(c.k, c.m, letters(size)), impl.ErrForm)
		}
		noShards(t, "text ahead of code", impl.Encode(c.k, c.m, letters(impl.MaxBytes+1)), impl.ErrSize)
	}
	for _, c := range rightCodes() {
		noShards(t, "long text", impl.Encode(c.k, c.m, letters(impl.MaxBytes+1)), impl.ErrSize)
		noShards(t, "longer text", impl.Encode(c.k, c.m, letters(8*impl.MaxBytes)), impl.ErrSize)
	}
}

// rowsOf are the places of the bits.
func rowsOf(those uint) []int64 {
	var l []int64
	for i := range int64(bits.UintSize) {
		if those>>i&1 == 1 {
			l = append(l, i)
		}
	}
	return l
}

func TestAnyRowsOfACodeHaveAnInverse(t *testing.T) {
	r := rand.New(rand.NewSource(44))
	for _, c := range rightCodes() {
		cells := impl.Cauchy(c.k, c.m).Matrix
		for those := range uint(1) << (c.k + c.m) {
			if int64(bits.OnesCount(those)) != c.k {
				continue
			}
			rows := rowsOf(those)
			for _, order := range []bool{false, true} {
				if order {
					r.Shuffle(len(rows), func(i, j int) { rows[i], rows[j] = rows[j], rows[i] })
				}
				part := impl.MatrixPick(cells, rows).Matrix
				inverse := impl.MatrixInv(part)
				same(t, fmt.Sprint("code of the inverse of rows ", rows, " of ", c), inverse.Code, impl.OK)
				sameMatrix(t, "product", impl.MatrixOut{Matrix: cellProduct(inverse.Matrix, part)}, unit(c.k))
			}
		}
	}
}

// comesBack asks of those shards what promise 5 says.
func comesBack(t *testing.T, c code, text string, shards []string, those uint, other string) {
	t.Helper()
	given := there(shards, those, other)
	what := fmt.Sprintf("code %v, %d bytes, shards %b", c, len(text), those)
	data := impl.Decode(c.k, c.m, int64(len(text)), given)
	mended := impl.Repair(c.k, c.m, given)
	if int64(bits.OnesCount(those)) < c.k {
		noData(t, "Decode: "+what, data, impl.ErrLost)
		noShards(t, "Repair: "+what, mended, impl.ErrLost)
		return
	}
	wantData(t, "Decode: "+what, data, text)
	wantTexts(t, "Repair: "+what, mended, shards)
}

func TestTextsComeBackFromAnyShards(t *testing.T) {
	r := rand.New(rand.NewSource(45))
	others := []string{"", "other", letters(300)}
	for _, c := range rightCodes() {
		var texts []string
		var shards [][]string
		for _, size := range []int{0, 1, int(c.k) - 1, int(c.k), int(c.k) + 1, r.Intn(40), r.Intn(40)} {
			texts = append(texts, drawnText(r, size))
			shards = append(shards, impl.Encode(c.k, c.m, texts[len(texts)-1]).Shards)
		}
		for those := range uint(1) << (c.k + c.m) {
			i := r.Intn(len(texts))
			comesBack(t, c, texts[i], shards[i], those, others[r.Intn(len(others))])
		}
		for i := range texts {
			every := uint(1)<<(c.k+c.m) - 1
			comesBack(t, c, texts[i], shards[i], every, "")
			comesBack(t, c, texts[i], shards[i], 0, "")
			comesBack(t, c, texts[i], shards[i], every>>c.m, "other")
			comesBack(t, c, texts[i], shards[i], every>>c.m<<c.m, "other")
			comesBack(t, c, texts[i], shards[i], every>>(c.m+1), "other")
			comesBack(t, c, texts[i], shards[i], every>>(c.m+1)<<(c.m+1), "other")
		}
	}
}

func TestLongTextsComeBack(t *testing.T) {
	r := rand.New(rand.NewSource(46))
	for _, c := range rightCodes() {
		for _, size := range []int{impl.MaxBytes, impl.MaxBytes - 1, 1000 + r.Intn(5000)} {
			text := drawnText(r, size)
			shards := impl.Encode(c.k, c.m, text).Shards
			for range 2 {
				those := uint(0)
				for _, i := range r.Perm(int(c.k + c.m))[:c.k] {
					those |= 1 << i
				}
				comesBack(t, c, text, shards, those, "other")
			}
		}
	}
}

// TestFirstShardsTell has shards that are not all of one text: those behind the first k that are there tell nothing.
func TestFirstShardsTell(t *testing.T) {
	r := rand.New(rand.NewSource(47))
	for _, c := range rightCodes() {
		for range 60 {
			size := r.Intn(5)
			data := drawnText(r, int(c.k)*size)
			word := fullShards(c, data)
			those, first := uint(r.Intn(1<<(c.k+c.m))), int64(0)
			given := there(word, those, "other")
			want := slices.Clone(word)
			for i := range given {
				if first == c.k && given[i].Have {
					given[i].Text = drawnText(r, size)
					want[i] = given[i].Text
				} else if given[i].Have {
					first++
				}
			}
			if first < c.k {
				continue
			}
			wantData(t, "Decode", impl.Decode(c.k, c.m, int64(len(data)), given), data)
			wantTexts(t, "Repair", impl.Repair(c.k, c.m, given), want)
		}
	}
}

// TestBytesBehindTheText has other bytes than 0 behind the end, so that no text of that size has these shards.
func TestBytesBehindTheText(t *testing.T) {
	r := rand.New(rand.NewSource(48))
	for _, c := range rightCodes() {
		for size := range int(c.k) * 3 {
			each := int(impl.ShardSize(c.k, int64(size)))
			data := drawnText(r, int(c.k)*each)
			shards := fullShards(c, data)
			given := all(shards)
			if c.m > 0 {
				given[r.Intn(len(given))] = impl.Shard{}
			}
			wantData(t, "Decode", impl.Decode(c.k, c.m, int64(size), given), data[:size])
			wantTexts(t, "Repair", impl.Repair(c.k, c.m, given), shards)
			same(t, "Whole", impl.Whole(c.k, c.m, shards), true)
		}
	}
}

// A fault makes a right input a wrong one.
type fault[I any] struct {
	code int64
	make func(*I)
}

// firstFault puts each set of the faults in: the first one is told, in the order they stand in.
func firstFault[I any](right func() I, faults []fault[I], told func(in I, code int64)) {
	for set := range 1 << len(faults) {
		in, code := right(), int64(impl.OK)
		// The last one first, since a long list is to have the other faults in it, too.
		for i := len(faults) - 1; i >= 0; i-- {
			if set>>i&1 == 1 {
				faults[i].make(&in)
				code = faults[i].code
			}
		}
		told(in, code)
	}
}

type decodeIn struct {
	k, m, size int64
	shards     []impl.Shard
}

func longer(l []impl.Shard, count int) []impl.Shard {
	for len(l) < count {
		l = append(l, l...)
	}
	return l[:count]
}

func TestDecodeTellsTheFirstFault(t *testing.T) {
	right := func() decodeIn {
		return decodeIn{2, 2, 8, []impl.Shard{{Have: true, Text: "abcd"}, {Have: true, Text: "efgh"}, {}, {}}}
	}
	faults := []fault[decodeIn]{
		{impl.ErrSize, func(in *decodeIn) { in.shards = longer(in.shards, impl.MaxList+1) }},
		{impl.ErrForm, func(in *decodeIn) { in.k = 9 }},
		{impl.ErrForm, func(in *decodeIn) { in.m = -1 }},
		{impl.ErrForm, func(in *decodeIn) { in.size = -1 }},
		{impl.ErrForm, func(in *decodeIn) { in.size = impl.MaxBytes + 1 }},
		{impl.ErrForm, func(in *decodeIn) { in.shards = in.shards[:3] }},
		{impl.ErrForm, func(in *decodeIn) { in.shards = longer(in.shards, 5) }},
		{impl.ErrSize, func(in *decodeIn) { in.shards[1].Text = "efghi" }},
		{impl.ErrLost, func(in *decodeIn) { in.shards[0].Have = false }},
	}
	firstFault(right, faults, func(in decodeIn, code int64) {
		got := impl.Decode(in.k, in.m, in.size, in.shards)
		if code == impl.OK {
			wantData(t, "right", got, "abcdefgh")
		} else {
			noData(t, fmt.Sprint("Decode ", in.k, in.m, in.size, len(in.shards)), got, code)
		}
	})
}

func TestRepairTellsTheFirstFault(t *testing.T) {
	shards := wantShards(code{2, 2}, "abcdefgh")
	right := func() decodeIn {
		return decodeIn{2, 2, 0, there(shards, 3, "")}
	}
	faults := []fault[decodeIn]{
		{impl.ErrSize, func(in *decodeIn) { in.shards = longer(in.shards, impl.MaxList+1) }},
		{impl.ErrForm, func(in *decodeIn) { in.k = 0 }},
		{impl.ErrForm, func(in *decodeIn) { in.m = 7 }},
		{impl.ErrForm, func(in *decodeIn) { in.shards = in.shards[:3] }},
		{impl.ErrForm, func(in *decodeIn) { in.shards = longer(in.shards, 5) }},
		{impl.ErrSize, func(in *decodeIn) {
			in.shards[1].Text += "i"
			in.shards[2] = impl.Shard{Have: true, Text: "abcd"}
		}},
		{impl.ErrSize, func(in *decodeIn) { in.shards[1].Text = letters(impl.MaxBytes + 1) }},
		{impl.ErrLost, func(in *decodeIn) { in.shards[0].Have = false }},
	}
	firstFault(right, faults, func(in decodeIn, code int64) {
		got := impl.Repair(in.k, in.m, in.shards)
		if code == impl.OK {
			wantTexts(t, "right", got, shards)
		} else {
			noShards(t, fmt.Sprint("Repair ", in.k, in.m, len(in.shards)), got, code)
		}
	})
}

func TestWrongCodes(t *testing.T) {
	for _, c := range wrongCodes() {
		for _, count := range []int{0, 1, 2, 3, 7, 8, 9, 14, 15, 16, impl.MaxList - 1, impl.MaxList} {
			texts := slices.Repeat([]string{"ab"}, count)
			what := fmt.Sprint(count, " shards by ", c)
			noData(t, "Decode of "+what, impl.Decode(c.k, c.m, 2, all(texts)), impl.ErrForm)
			noData(t, "Decode of none of "+what, impl.Decode(c.k, c.m, 0, there(texts, 0, "")), impl.ErrForm)
			noShards(t, "Repair of "+what, impl.Repair(c.k, c.m, all(texts)), impl.ErrForm)
			same(t, "Whole of "+what, impl.Whole(c.k, c.m, texts), false)
		}
	}
}

func TestCountsOfShards(t *testing.T) {
	for _, c := range append(rightCodes(), wrongCodes()...) {
		texts := slices.Repeat([]string{""}, impl.MaxList+1)
		for _, count := range []int64{0, c.k, c.k + c.m - 1, c.k + c.m + 1, impl.MaxList, impl.MaxList + 1} {
			if count < 0 || count > impl.MaxList+1 || count == c.k+c.m {
				continue
			}
			want := int64(impl.ErrForm)
			if count > impl.MaxList {
				want = impl.ErrSize
			}
			what := fmt.Sprint(count, " by ", c)
			noData(t, "Decode of "+what, impl.Decode(c.k, c.m, 0, all(texts[:count])), want)
			noData(t, "Decode of none of "+what, impl.Decode(c.k, c.m, 0, make([]impl.Shard, count)), want)
			noShards(t, "Repair of "+what, impl.Repair(c.k, c.m, all(texts[:count])), want)
			noShards(t, "Repair of none of "+what, impl.Repair(c.k, c.m, make([]impl.Shard, count)), want)
			same(t, "Whole of "+what, impl.Whole(c.k, c.m, texts[:count]), false)
		}
		if impl.CodeRight(c.k, c.m) {
			noData(t, "Decode of nil", impl.Decode(c.k, c.m, 0, nil), impl.ErrForm)
			noShards(t, "Repair of nil", impl.Repair(c.k, c.m, nil), impl.ErrForm)
			same(t, "Whole of nil", impl.Whole(c.k, c.m, nil), false)
		}
	}
}

func TestDecodeOfNoSizes(t *testing.T) {
	for _, c := range rightCodes() {
		for _, size := range wrongTextSizes() {
			texts := make([]string, c.k+c.m)
			noData(t, fmt.Sprint("size ", size), impl.Decode(c.k, c.m, size, all(texts)), impl.ErrForm)
			noData(t, fmt.Sprint("none there, size ", size), impl.Decode(c.k, c.m, size, there(texts, 0, "")), impl.ErrForm)
			texts = slices.Repeat([]string{letters(impl.MaxBytes + 1)}, len(texts))
			noData(t, fmt.Sprint("long, size ", size), impl.Decode(c.k, c.m, size, all(texts)), impl.ErrForm)
		}
	}
}

func TestDecodeOfOtherSizes(t *testing.T) {
	r := rand.New(rand.NewSource(49))
	for _, c := range rightCodes() {
		for _, size := range []int{0, 1, int(c.k), int(c.k) + 1, 30, impl.MaxBytes} {
			text := drawnText(r, size)
			shards := impl.Encode(c.k, c.m, text).Shards
			for i, shard := range shards {
				for _, other := range []string{shard + "\x00", shard[:max(len(shard), 1)-1], ""} {
					if len(other) == len(shard) {
						continue
					}
					given := all(shards)
					given[i].Text = other
					noData(t, "one of another size", impl.Decode(c.k, c.m, int64(size), given), impl.ErrSize)
					alone := there(shards, 1<<i, "")
					alone[i].Text = other
					noData(t, "one alone", impl.Decode(c.k, c.m, int64(size), alone), impl.ErrSize)
					given[i].Have = false
					if c.m > 0 {
						wantData(t, "one that lacks", impl.Decode(c.k, c.m, int64(size), given), text)
					} else {
						noData(t, "one that is needed", impl.Decode(c.k, c.m, int64(size), given), impl.ErrLost)
					}
				}
			}
		}
	}
}

func TestDecodeOfNothing(t *testing.T) {
	for _, c := range rightCodes() {
		texts := make([]string, c.k+c.m)
		wantData(t, "all there", impl.Decode(c.k, c.m, 0, all(texts)), "")
		for _, other := range []string{"", "x", letters(impl.MaxBytes + 1)} {
			noData(t, "none there", impl.Decode(c.k, c.m, 0, there(texts, 0, other)), impl.ErrLost)
			noData(t, "none there", impl.Decode(c.k, c.m, impl.MaxBytes, there(texts, 0, other)), impl.ErrLost)
			noShards(t, "none there", impl.Repair(c.k, c.m, there(texts, 0, other)), impl.ErrLost)
			wantTexts(t, "empty", impl.Repair(c.k, c.m, there(texts, 1<<c.k-1, other)), texts)
			noShards(t, "too few empty", impl.Repair(c.k, c.m, there(texts, 1<<(c.k-1)-1, other)), impl.ErrLost)
		}
	}
}

func TestRepairOfSizesThatDiffer(t *testing.T) {
	for _, c := range rightCodes() {
		count := int(c.k + c.m)
		for i := range count {
			for j := range count {
				if i == j {
					continue
				}
				given := make([]impl.Shard, count)
				given[i], given[j] = impl.Shard{Have: true, Text: "abc"}, impl.Shard{Have: true, Text: "ab"}
				noShards(t, "these two", impl.Repair(c.k, c.m, given), impl.ErrSize)
				given = all(slices.Repeat([]string{"abc"}, count))
				given[j].Text = ""
				noShards(t, "one empty", impl.Repair(c.k, c.m, given), impl.ErrSize)
				given[j].Text = letters(impl.MaxBytes)
				noShards(t, "one long", impl.Repair(c.k, c.m, given), impl.ErrSize)
			}
		}
	}
}

func TestRepairOfLongShards(t *testing.T) {
	r := rand.New(rand.NewSource(50))
	for _, c := range []code{{1, 0}, {1, 6}, {2, 1}, {5, 3}, {8, 0}, {8, 6}} {
		count := int(c.k + c.m)
		shards := fullShards(c, drawnText(r, int(c.k)*impl.MaxBytes))
		wantTexts(t, "all there", impl.Repair(c.k, c.m, all(shards)), shards)
		these := uint(1<<c.k-1) << c.m
		wantTexts(t, "the last ones", impl.Repair(c.k, c.m, there(shards, these, letters(impl.MaxBytes+1))), shards)
		same(t, "whole", impl.Whole(c.k, c.m, shards), true)
		for i := range count {
			given := make([]impl.Shard, count)
			given[i] = impl.Shard{Have: true, Text: letters(impl.MaxBytes + 1)}
			noShards(t, "one alone too long", impl.Repair(c.k, c.m, given), impl.ErrSize)
		}
		long := slices.Repeat([]string{strings.Repeat("\x00", impl.MaxBytes+1)}, count)
		noShards(t, "all too long", impl.Repair(c.k, c.m, all(long)), impl.ErrSize)
		same(t, "whole, all too long", impl.Whole(c.k, c.m, long), false)
	}
}

// notWhole changes one byte at a time.
func notWhole(t *testing.T, c code, shards []string, i int, at int, by byte) {
	t.Helper()
	b := []byte(shards[i])
	b[at] ^= by
	other := slices.Clone(shards)
	other[i] = string(b)
	same(t, fmt.Sprint("Whole by ", c, ", byte ", at, " of shard ", i), impl.Whole(c.k, c.m, other), c.m == 0)
}

func TestWholeNotesEachByte(t *testing.T) {
	r := rand.New(rand.NewSource(51))
	for _, c := range rightCodes() {
		for _, size := range []int{1, int(c.k), int(c.k) + 1, 1 + r.Intn(40)} {
			shards := impl.Encode(c.k, c.m, drawnText(r, size)).Shards
			same(t, "Whole", impl.Whole(c.k, c.m, shards), true)
			for i := range shards {
				for at := range shards[i] {
					for _, by := range []byte{1, 128, byte(1 + r.Intn(255))} {
						notWhole(t, c, shards, i, at, by)
					}
				}
			}
		}
		shards := impl.Encode(c.k, c.m, drawnText(r, 1)).Shards
		for i := range shards {
			for by := 1; by < 256; by++ {
				notWhole(t, c, shards, i, 0, byte(by))
			}
		}
	}
	for _, c := range []code{{1, 1}, {3, 2}, {8, 6}} {
		shards := impl.Encode(c.k, c.m, drawnText(r, impl.MaxBytes)).Shards
		for i := range shards {
			notWhole(t, c, shards, i, 0, 1)
			notWhole(t, c, shards, i, len(shards[i])-1, 1)
		}
	}
}

func TestWholeOfOtherSizes(t *testing.T) {
	for _, c := range rightCodes() {
		empty := make([]string, c.k+c.m)
		same(t, "empty", impl.Whole(c.k, c.m, empty), true)
		shards := wantShards(c, letters(int(c.k)*3))
		zeros := slices.Repeat([]string{"\x00\x00\x00"}, len(shards))
		same(t, "zeros", impl.Whole(c.k, c.m, zeros), true)
		one := c.k+c.m == 1
		for i := range shards {
			for _, from := range [][]string{shards, zeros, empty} {
				for _, other := range []string{from[i] + "\x00", from[i][:max(len(from[i]), 1)-1]} {
					if len(other) == len(from[i]) {
						continue
					}
					l := slices.Clone(from)
					l[i] = other
					same(t, fmt.Sprint("by ", c, " shard ", i), impl.Whole(c.k, c.m, l), one)
				}
			}
		}
	}
}

func TestWholeOfOtherShards(t *testing.T) {
	r := rand.New(rand.NewSource(52))
	for _, c := range rightCodes() {
		shards := fullShards(c, drawnText(r, int(c.k)*20))
		same(t, "one too few", impl.Whole(c.k, c.m, shards[1:]), false)
		same(t, "one too many", impl.Whole(c.k, c.m, append(slices.Clone(shards), shards[0])), false)
		if c.k > 1 && c.m > 0 {
			l := slices.Clone(shards)
			l[0], l[1] = l[1], l[0]
			same(t, "two changed", impl.Whole(c.k, c.m, l), false)
			same(t, "of a smaller code", impl.Whole(c.k-1, c.m+1, shards), false)
		}
		same(t, "no parity", impl.Whole(c.k, 0, shards[:c.k]), true)
	}
	same(t, "one text", impl.Whole(1, 0, []string{letters(impl.MaxBytes)}), true)
	same(t, "one long text", impl.Whole(1, 0, []string{letters(impl.MaxBytes + 1)}), false)
	same(t, "the same twice", impl.Whole(1, 1, []string{"ab", "ab"}), true)
}

// soft is a text over bytes that can be changed behind the call, as no text of the language's own can.
func soft(text string) (string, []byte) {
	b := []byte(text)
	return unsafe.String(unsafe.SliceData(b), len(b)), b
}

func spoil(b []byte) {
	for i := range b {
		b[i] ^= 255
	}
}

func TestEncodeIsNewMemory(t *testing.T) {
	for _, c := range rightCodes() {
		for _, size := range []int{1, int(c.k), 8 * int(c.k), 840, impl.MaxBytes} {
			text, b := soft(letters(size))
			want := wantShards(c, letters(size))
			got, again := impl.Encode(c.k, c.m, text), impl.Encode(c.k, c.m, text)
			same(t, "argument", string(b), letters(size))
			spoil(b)
			wantTexts(t, "answer", got, want)
			got.Shards[0] = "changed"
			wantTexts(t, "another answer", again, want)
		}
	}
}

// softShards has the places' texts over bytes, those of the ones that lack, too.
func softShards(texts []string, those uint) ([]impl.Shard, [][]byte) {
	room := make([]impl.Shard, len(texts)+20)
	for i := range room {
		room[i] = impl.Shard{Have: true, Text: "behind"}
	}
	bytes := make([][]byte, len(texts))
	for i, text := range texts {
		room[i].Have = those>>i&1 == 1
		room[i].Text, bytes[i] = soft(text)
	}
	return room[:len(texts)], bytes
}

func TestMendingKeepsApart(t *testing.T) {
	r := rand.New(rand.NewSource(53))
	for _, c := range rightCodes() {
		text := drawnText(r, 4*int(c.k))
		shards := wantShards(c, text)
		for _, those := range []uint{1<<(c.k+c.m) - 1, 1<<c.k - 1, (1<<c.k - 1) << c.m, 1} {
			given, bytes := softShards(shards, those)
			before := slices.Clone(given[:cap(given)])
			data, mended := impl.Decode(c.k, c.m, int64(len(text)), given), impl.Repair(c.k, c.m, given)
			again := impl.Repair(c.k, c.m, given)
			same(t, "arguments", slices.Equal(given[:cap(given)], before), true)
			for i := range bytes {
				same(t, "bytes", string(bytes[i]), shards[i])
				spoil(bytes[i])
			}
			clear(given)
			if data.Code == impl.ErrLost {
				continue
			}
			wantData(t, "Decode", data, text)
			wantTexts(t, "Repair", mended, shards)
			clear(mended.Shards[:cap(mended.Shards)])
			wantTexts(t, "another answer", again, shards)
		}
	}
}

func TestWholeKeepsWhatIsHandedIn(t *testing.T) {
	for _, c := range rightCodes() {
		shards := wantShards(c, letters(30))
		room := append(slices.Clone(shards), "behind", "it")
		same(t, "Whole", impl.Whole(c.k, c.m, room[:len(shards)]), true)
		same(t, "arguments", slices.Equal(room, append(shards, "behind", "it")), true)
	}
}

func TestMendingSideBySide(t *testing.T) {
	text := letters(5000)
	shards := wantShards(code{5, 3}, text)
	given := there(shards, 0b11011010, "other")
	const workers = 16
	var encoded, mended [workers]impl.ShardsOut
	var decoded [workers]impl.DataOut
	var right [workers]bool
	var group sync.WaitGroup
	for i := range workers {
		group.Go(func() {
			encoded[i], mended[i] = impl.Encode(5, 3, text), impl.Repair(5, 3, given)
			decoded[i], right[i] = impl.Decode(5, 3, 5000, given), impl.Whole(5, 3, shards)
		})
	}
	group.Wait()
	for i := range workers {
		wantTexts(t, "Encode", encoded[i], shards)
		wantTexts(t, "Repair", mended[i], shards)
		wantData(t, "Decode", decoded[i], text)
		same(t, "Whole", right[i], true)
	}
}
