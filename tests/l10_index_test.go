package tests

import (
	"fmt"
	"maps"
	"math"
	"math/rand"
	"slices"
	"strings"
	"sync"
	"testing"
	"unsafe"

	"loop.example/g00259/impl"
)

func wantPlaceRight(p impl.Place) bool {
	return len(p.Key) == 32 && wantObjectRight(p.Pack) && (p.Kind == 1 || p.Kind == 2) &&
		p.At >= 0 && p.At <= 12000 && p.Size >= 0 && p.Size <= 2000
}

// spotOf puts what places are told apart by in one text: right keys have one size, so these texts rise as the places do.
func spotOf(p impl.Place) string {
	return p.Key + p.Pack
}

func wantPlacesRight(l []impl.Place) bool {
	for i, p := range l {
		if !wantPlaceRight(p) || i > 0 && spotOf(l[i-1]) >= spotOf(p) {
			return false
		}
	}
	return len(l) <= 300
}

// risen are places by their spots, in their order.
func risen(places map[string]impl.Place) []impl.Place {
	var l []impl.Place
	for _, spot := range slices.Sorted(maps.Keys(places)) {
		l = append(l, places[spot])
	}
	return l
}

func wantPlacesOf(pack string, text string) []impl.Place {
	found := map[string]impl.Place{}
	// The last one first, so that the first one of a key is what stays.
	for _, e := range slices.Backward(wantScan(text)) {
		if e.At <= 12000 && wantObjectRight(pack) {
			found[e.Key] = impl.Place{Key: e.Key, Pack: pack, Kind: e.Kind, At: e.At, Size: e.Size}
		}
	}
	l := risen(found)
	return l[:min(len(l), 300)]
}

func wantAdd(a []impl.Place, b []impl.Place) impl.PlacesOut {
	if len(a) > 400 || len(b) > 400 {
		return impl.PlacesOut{Code: impl.ErrSize}
	}
	if !wantPlacesRight(a) || !wantPlacesRight(b) {
		return impl.PlacesOut{Code: impl.ErrForm}
	}
	both := map[string]impl.Place{}
	for _, p := range slices.Concat(b, a) {
		both[spotOf(p)] = p
	}
	if len(both) > 300 {
		return impl.PlacesOut{Code: impl.ErrFull}
	}
	return impl.PlacesOut{Places: risen(both)}
}

func wantFind(l []impl.Place, key string) impl.PlaceOut {
	if len(l) > 400 || len(key) > 20000 {
		return impl.PlaceOut{Code: impl.ErrSize}
	}
	if !wantPlacesRight(l) {
		return impl.PlaceOut{Code: impl.ErrForm}
	}
	for _, p := range l {
		if p.Key == key {
			return impl.PlaceOut{Place: p}
		}
	}
	return impl.PlaceOut{Code: impl.ErrNone}
}

func wantDrop(l []impl.Place, pack string) []impl.Place {
	var left []impl.Place
	for _, p := range l {
		if p.Pack != pack && len(pack) <= 20000 && wantPlacesRight(l) {
			left = append(left, p)
		}
	}
	return left
}

// placeBytes takes places that are not right, too.
func placeBytes(p impl.Place) string {
	return p.Key + varint(int64(len(p.Pack))) + p.Pack + varint(p.Kind) + varint(p.At) + varint(p.Size)
}

func placesBytes(l []impl.Place) string {
	return countedBytes(int64(len(l)), l)
}

// countedBytes tells a number of places that need not be theirs.
func countedBytes(count int64, l []impl.Place) string {
	var out strings.Builder
	out.WriteString(varint(count))
	for _, p := range l {
		out.WriteString(placeBytes(p))
	}
	return out.String()
}

// A reading is what is left of a text that is read, part by part.
type reading struct {
	rest   string
	failed bool
}

func (r *reading) number() int64 {
	n, size, ok := shortest(r.rest)
	if !ok {
		r.failed, size = true, 0
	}
	r.rest = r.rest[size:]
	return n
}

func (r *reading) take(size int64) string {
	if size < 0 || size > int64(len(r.rest)) {
		r.failed, size = true, 0
	}
	taken := r.rest[:size]
	r.rest = r.rest[size:]
	return taken
}

func wantPlacesRead(text string) impl.PlacesOut {
	if len(text) > 20000 {
		return impl.PlacesOut{Code: impl.ErrSize}
	}
	var l []impl.Place
	r := reading{rest: text}
	count := r.number()
	for i := int64(0); i < count && !r.failed; i++ {
		l = append(l, impl.Place{Key: r.take(32), Pack: r.take(r.number()), Kind: r.number(), At: r.number(), Size: r.number()})
	}
	if count < 0 || r.failed || r.rest != "" || !wantPlacesRight(l) {
		return impl.PlacesOut{Code: impl.ErrSyntax}
	}
	return impl.PlacesOut{Places: l}
}

// behindPlaces stands in a list's room behind its last place, where a call may not change anything, either.
func behindPlaces() impl.Place {
	return impl.Place{Key: "behind", Pack: "behind", Kind: 7, At: 7, Size: 7}
}

func (m *softMemory) places(l []impl.Place) []impl.Place {
	room := make([]impl.Place, len(l)+2)
	for i := range room {
		room[i] = behindPlaces()
	}
	for i, p := range l {
		room[i] = impl.Place{Key: m.text(p.Key), Pack: m.text(p.Pack), Kind: p.Kind, At: p.At, Size: p.Size}
	}
	m.clears = append(m.clears, func() { clear(room) })
	return room[:len(l)]
}

// A placing is a call of lists of places, and what it is to tell: a code, places, and a text or a yes or no.
type placing struct {
	what   string
	lists  [][]impl.Place
	memory *softMemory
	call   func(l [][]impl.Place) placed
	want   placed
}

type placed struct {
	code   int64
	places []impl.Place
	rest   any
}

// twice asks that each of two calls tells what is wanted, that no list is changed, and that no answer shares memory
// with what was handed in, nor with the other answer.
func (q placing) twice(t *testing.T) {
	t.Helper()
	var given [][]impl.Place
	for _, l := range q.lists {
		given = append(given, q.memory.places(l))
	}
	unchanged := func() {
		for i, l := range q.lists {
			sameList(t, q.what+": the places handed in", given[i], l)
			for _, p := range given[i][len(l):cap(given[i])] {
				same(t, q.what+": behind the places", p, behindPlaces())
			}
		}
	}
	got := q.call(given)
	unchanged()
	again := q.call(given)
	unchanged()
	q.memory.spoil()
	q.told(t, q.what, got)
	textsApart(t, q.what, got.places, again.places)
	wrecked(got.places)
	q.told(t, q.what+", again", again)
}

func (q placing) told(t *testing.T, what string, got placed) {
	t.Helper()
	same(t, what+": code", got.code, q.want.code)
	sameList(t, what, got.places, q.want.places)
	same(t, what, got.rest, q.want.rest)
}

// textsApart asks that no text of the one list stands where one of the other does.
func textsApart(t *testing.T, what string, a []impl.Place, b []impl.Place) {
	t.Helper()
	where := map[*byte]bool{}
	for _, p := range a {
		where[unsafe.StringData(p.Key)], where[unsafe.StringData(p.Pack)] = true, true
	}
	for _, p := range b {
		if p != (impl.Place{}) && (where[unsafe.StringData(p.Key)] || where[unsafe.StringData(p.Pack)]) {
			t.Fatalf("%s: two answers share the texts of %s", what, shown(p))
		}
	}
}

func checkPlacesRight(t *testing.T, what string, l []impl.Place, want bool) {
	t.Helper()
	same(t, what+": as the test has it", wantPlacesRight(l), want)
	placing{what + ": right", [][]impl.Place{l}, &softMemory{}, func(l [][]impl.Place) placed {
		return placed{rest: impl.PlacesRight(l[0])}
	}, placed{rest: want}}.twice(t)
}

func checkPlacesOf(t *testing.T, pack string, text string) []impl.Place {
	t.Helper()
	what := fmt.Sprintf("PlacesOf of %q, %d bytes", short(pack), len(text))
	want, m := wantPlacesOf(pack, text), &softMemory{}
	name, given := m.text(pack), m.text(text)
	placing{what, nil, m, func([][]impl.Place) placed {
		got := impl.PlacesOf(name, given)
		same(t, what+": name", name, pack)
		same(t, what+": text", given, text)
		return placed{places: got}
	}, placed{places: want}}.twice(t)
	same(t, what+": right", impl.PlacesRight(want), true)
	return want
}

func checkAdd(t *testing.T, what string, a []impl.Place, b []impl.Place) impl.PlacesOut {
	t.Helper()
	what = fmt.Sprintf("PlacesAdd of %d and %d places, %s", len(a), len(b), what)
	want := wantAdd(a, b)
	placing{what, [][]impl.Place{a, b}, &softMemory{}, func(l [][]impl.Place) placed {
		got := impl.PlacesAdd(l[0], l[1])
		return placed{code: got.Code, places: got.Places}
	}, placed{code: want.Code, places: want.Places}}.twice(t)
	return want
}

func checkFind(t *testing.T, l []impl.Place, key string) impl.PlaceOut {
	t.Helper()
	what := fmt.Sprintf("PlacesFind of %d places, %s", len(l), shown(key))
	want, m := wantFind(l, key), &softMemory{}
	asked := m.text(key)
	placing{what, [][]impl.Place{l}, m, func(l [][]impl.Place) placed {
		got := impl.PlacesFind(l[0], asked)
		same(t, what+": key", asked, key)
		return placed{code: got.Code, places: []impl.Place{got.Place}}
	}, placed{code: want.Code, places: []impl.Place{want.Place}}}.twice(t)
	return want
}

func checkDrop(t *testing.T, l []impl.Place, pack string) []impl.Place {
	t.Helper()
	what := fmt.Sprintf("PlacesDrop of %d places, %q", len(l), short(pack))
	want, m := wantDrop(l, pack), &softMemory{}
	asked := m.text(pack)
	placing{what, [][]impl.Place{l}, m, func(l [][]impl.Place) placed {
		got := impl.PlacesDrop(l[0], asked)
		same(t, what+": pack", asked, pack)
		return placed{places: got}
	}, placed{places: want}}.twice(t)
	return want
}

// checkPlacesBytes also reads them back.
func checkPlacesBytes(t *testing.T, l []impl.Place) string {
	t.Helper()
	what := fmt.Sprintf("PlacesBytes of %d places", len(l))
	want, back := "", impl.PlacesOut{Code: impl.ErrSyntax}
	if wantPlacesRight(l) {
		want, back = placesBytes(l), impl.PlacesOut{Places: l}
	}
	if len(want) > 20000 {
		back = impl.PlacesOut{Code: impl.ErrSize}
	}
	placing{what, [][]impl.Place{l}, &softMemory{}, func(l [][]impl.Place) placed {
		return placed{rest: impl.PlacesBytes(l[0])}
	}, placed{rest: want}}.twice(t)
	got := checkPlacesRead(t, want)
	same(t, what+": back", got.Code, back.Code)
	sameList(t, what+": back", got.Places, back.Places)
	return want
}

// checkPlacesRead also asks that places that are read have just these bytes.
func checkPlacesRead(t *testing.T, text string) impl.PlacesOut {
	t.Helper()
	what := fmt.Sprintf("PlacesRead of %d bytes", len(text))
	want, m := wantPlacesRead(text), &softMemory{}
	given := m.text(text)
	placing{what, nil, m, func([][]impl.Place) placed {
		got := impl.PlacesRead(given)
		same(t, what+": text", given, text)
		if got.Code == impl.OK {
			same(t, what+": bytes", impl.PlacesBytes(got.Places), text)
			same(t, what+": right", impl.PlacesRight(got.Places), true)
		}
		return placed{code: got.Code, places: got.Places}
	}, placed{code: want.Code, places: want.Places}}.twice(t)
	return want
}

// noPlaces is of texts that are no places' bytes, and are not too long.
func noPlaces(t *testing.T, what string, text string) {
	t.Helper()
	checkPlacesRead(t, text)
	got := impl.PlacesRead(text)
	same(t, what+": code", got.Code, impl.ErrSyntax)
	sameList(t, what, got.Places, nil)
}

// numbered are so many right places, of which two each have one key, that no other call of it with another first
// number has.
func numbered(first int, count int) []impl.Place {
	var l []impl.Place
	for i := range count {
		n := first + i
		l = append(l, impl.Place{Key: fmt.Sprintf("%032d", n/2), Pack: "p-" + string("ab"[n%2]), Kind: int64(1 + n%2), At: int64(n), Size: int64(n % 2001)})
	}
	return l
}

// drawnKey is often one that was drawn already; some keys have all but their first or last byte in common.
func drawnKey(r *rand.Rand) string {
	b := string([]byte{byte(r.Intn(3)) * 127})
	return []string{sha(b), b + strings.Repeat("k", 31), strings.Repeat("k", 31) + b, drawnText(r, 32)}[r.Intn(4)]
}

func drawnObject(r *rand.Rand) string {
	name := drawnName(r)
	return name[:min(len(name), 60)]
}

func drawnPlace(r *rand.Rand) impl.Place {
	at := []int64{0, 63, 64, impl.MaxPack, r.Int63n(impl.MaxPack + 1)}[r.Intn(5)]
	size := []int64{0, 63, 64, impl.MaxBlob, r.Int63n(impl.MaxBlob + 1)}[r.Intn(5)]
	return impl.Place{Key: drawnKey(r), Pack: drawnObject(r), Kind: 1 + r.Int63n(2), At: at, Size: size}
}

// drawnPlaces are right.
func drawnPlaces(r *rand.Rand, most int) []impl.Place {
	places := map[string]impl.Place{}
	for range r.Intn(most + 1) {
		p := drawnPlace(r)
		places[spotOf(p)] = p
	}
	return risen(places)
}

// drawnBoth are right, and some have a spot in common, with whatever stands there.
func drawnBoth(r *rand.Rand, most int) ([]impl.Place, []impl.Place) {
	a, b := drawnPlaces(r, most), map[string]impl.Place{}
	for _, p := range drawnPlaces(r, most) {
		b[spotOf(p)] = p
	}
	for _, p := range a {
		other := drawnPlace(r)
		other.Key, other.Pack = p.Key, p.Pack
		switch r.Intn(4) {
		case 0:
			b[spotOf(p)] = p
		case 1:
			b[spotOf(p)] = other
		}
	}
	l := risen(b)
	return a, l[:min(len(l), 300)]
}

func TestIndexConstants(t *testing.T) {
	same(t, "MaxPlaces", impl.MaxPlaces, 300)
}

func TestPlacesRightByCounts(t *testing.T) {
	for _, count := range []int{0, 1, 2, 299, 300, 301, 302, 399, 400, 401, 800} {
		checkPlacesRight(t, fmt.Sprint(count, " places"), numbered(0, count), count <= 300)
	}
	checkPlacesRight(t, "nil", nil, true)
	checkPlacesRight(t, "empty", []impl.Place{}, true)
	checkPlacesRight(t, "the zero one", []impl.Place{{}}, false)
}

// keyed are so many right places, each of a key of its own: whatever pack one has, they rise.
func keyed(count int) []impl.Place {
	l := numbered(0, count)
	for i := range l {
		l[i].Key = fmt.Sprintf("%032d", i)
	}
	return l
}

// withPlace are so many right places, but that the one at that place is changed.
func withPlace(count int, at int, change func(p *impl.Place)) []impl.Place {
	l := keyed(count)
	change(&l[at])
	return l
}

// checkChange asks whether places of which the first, a middle, or the last one is changed so are right.
func checkChange(t *testing.T, what string, want bool, change func(p *impl.Place)) {
	t.Helper()
	for _, count := range []int{1, 2, 3, 300} {
		for _, at := range somePlaces(count) {
			l := withPlace(count, at, change)
			checkPlacesRight(t, fmt.Sprint(what, " at ", at, " of ", count), l, want)
			if count < 4 {
				checkPlacesBytes(t, l)
				checkRefused(t, what, l, want)
			}
		}
	}
}

// checkRefused asks what each call that takes places says of those that are not right.
func checkRefused(t *testing.T, what string, l []impl.Place, right bool) {
	t.Helper()
	code := int64(impl.ErrForm)
	if right {
		code = impl.OK
	}
	same(t, what+": add", checkAdd(t, what, l, numbered(600, 2)).Code, code)
	same(t, what+": be added", checkAdd(t, what, numbered(600, 2), l).Code, code)
	same(t, what+": find", checkFind(t, l, l[0].Key).Code == impl.ErrForm, !right)
	same(t, what+": find none", checkFind(t, l, "none").Code == impl.ErrForm, !right)
	same(t, what+": drop", len(checkDrop(t, l, "none")) == 0, !right)
	checkDrop(t, l, l[0].Pack)
	if !right {
		same(t, what+": bytes", impl.PlacesBytes(l), "")
		noPlaces(t, what+": read", placesBytes(l))
	}
}

func TestPlacesRightByKeys(t *testing.T) {
	for _, size := range []int{0, 1, 16, 30, 31, 32, 33, 34, 64, 320} {
		checkChange(t, fmt.Sprint("a key of ", size, " bytes"), size == 32, func(p *impl.Place) {
			p.Key = (p.Key + strings.Repeat("k", 320))[:size]
		})
		checkChange(t, fmt.Sprint("a key of ", size, " bytes, cut ahead"), size == 32, func(p *impl.Place) {
			key := strings.Repeat("0", 320) + p.Key
			p.Key = key[len(key)-size:]
		})
	}
	for b := range 256 {
		key := strings.Repeat(string([]byte{byte(b)}), 32)
		checkPlacesRight(t, "of one byte", []impl.Place{{Key: key, Pack: "a", Kind: 1}}, true)
	}
}

func TestPlacesRightByPacks(t *testing.T) {
	check := func(pack string, want bool) {
		t.Helper()
		checkChange(t, fmt.Sprintf("a pack %q", short(pack)), want, func(p *impl.Place) { p.Pack = pack })
	}
	for _, pack := range rightObjects() {
		check(pack, true)
	}
	for _, pack := range wrongObjects() {
		l := []impl.Place{{Key: strings.Repeat("k", 32), Pack: pack, Kind: 1}}
		checkPlacesRight(t, fmt.Sprintf("a pack %q", short(pack)), l, false)
		checkPlacesBytes(t, l)
	}
	for _, pack := range []string{"", "t-", "t-a", "t-0-p", "A", "p_", "p.", "-p", "0", "p/1", strings.Repeat("p", 60), strings.Repeat("p", 61)} {
		check(pack, len(pack) == 60)
	}
}

func TestPlacesRightByNumbers(t *testing.T) {
	for _, kind := range append(wrongKinds(), 1, 2) {
		checkChange(t, fmt.Sprint("kind ", kind), kind == 1 || kind == 2, func(p *impl.Place) { p.Kind = kind })
	}
	for _, at := range edges(impl.MaxPack) {
		checkChange(t, fmt.Sprint("at ", at), at >= 0 && at <= 12000, func(p *impl.Place) { p.At = at })
	}
	for _, size := range edges(impl.MaxBlob) {
		checkChange(t, fmt.Sprint("size ", size), size >= 0 && size <= 2000, func(p *impl.Place) { p.Size = size })
	}
	checkChange(t, "at the end of the greatest pack", true, func(p *impl.Place) { p.At, p.Size = 12000, 2000 })
	checkChange(t, "the least numbers", false, func(p *impl.Place) { p.Kind, p.At, p.Size = math.MinInt64, math.MinInt64, math.MinInt64 })
	checkChange(t, "the greatest numbers", false, func(p *impl.Place) { p.Kind, p.At, p.Size = math.MaxInt64, math.MaxInt64, math.MaxInt64 })
}

// ordered are two places that stand one behind the other, and whether they are right so, and the other way round.
type ordered struct {
	what    string
	a, b    impl.Place
	is, was bool
}

func orders() []ordered {
	place := func(key string, pack string) impl.Place {
		return impl.Place{Key: (strings.Repeat("m", 31) + key)[len(key)-1:], Pack: pack, Kind: 1}
	}
	more := place("m", "a")
	more.Kind, more.At, more.Size = 2, 12000, 2000
	first := impl.Place{Key: "l" + strings.Repeat("m", 31), Pack: "z", Kind: 1}
	return []ordered{
		{"by the key", place("a", "a"), place("b", "a"), true, false},
		{"by the key, against the pack", place("a", "b"), place("b", "a"), true, false},
		{"by the key's first byte", first, place("a", "a"), true, false},
		{"by a byte above 127", place("\x7f", "a"), place("\x80", "a"), true, false},
		{"by a byte 0", place("\x00", "b"), place("a", "a"), true, false},
		{"by the pack", place("m", "a"), place("m", "b"), true, false},
		{"by the pack, which begins the other", place("m", "a"), place("m", "a0"), true, false},
		{"by the pack, the shorter one behind", place("m", "ab"), place("m", "b"), true, false},
		{"by the pack's line", place("m", "a-b"), place("m", "a0"), true, false},
		{"of one key and pack", place("m", "a"), place("m", "a"), false, false},
		{"of one key and pack, with other numbers", place("m", "a"), more, false, false},
	}
}

func TestPlacesRightByOrder(t *testing.T) {
	for _, o := range orders() {
		checkPlacesRight(t, o.what, []impl.Place{o.a, o.b}, o.is)
		checkPlacesRight(t, o.what+", turned", []impl.Place{o.b, o.a}, o.was)
		checkRefused(t, o.what, []impl.Place{o.a, o.b}, o.is)
		checkRefused(t, o.what+", turned", []impl.Place{o.b, o.a}, o.was)
		// Ahead of all, between, and behind all of the others.
		ahead, behind := numbered(0, 298), numbered(0, 298)
		for i := range behind {
			behind[i].Key = "z" + behind[i].Key[1:]
		}
		for _, cut := range []int{0, 1, 149, 297, 298} {
			l := slices.Concat(ahead[:cut], []impl.Place{o.a, o.b}, behind[cut:])
			checkPlacesRight(t, fmt.Sprint(o.what, " behind ", cut), l, o.is)
			l[cut], l[cut+1] = l[cut+1], l[cut]
			checkPlacesRight(t, fmt.Sprint(o.what, ", turned, behind ", cut), l, o.was)
		}
	}
	for _, count := range []int{2, 3, 300} {
		for _, at := range somePlaces(count - 1) {
			l := numbered(0, count)
			l[at], l[at+1] = l[at+1], l[at]
			checkPlacesRight(t, fmt.Sprint("turned at ", at, " of ", count), l, false)
			l[at] = l[at+1]
			checkPlacesRight(t, fmt.Sprint("twice at ", at, " of ", count), l, false)
		}
	}
	apart := numbered(0, 10)
	apart[9] = apart[0]
	checkPlacesRight(t, "twice, but not side by side", apart, false)
}

func TestPlacesOfNames(t *testing.T) {
	text := recordsOf(threeRecords())
	for _, pack := range rightObjects() {
		l := checkPlacesOf(t, pack, text)
		same(t, "places", len(l), 4)
		for _, p := range l {
			same(t, "pack", p.Pack, pack)
		}
	}
	// wrongObjects has texts of MaxBytes bytes and of one more.
	for _, pack := range append(wrongObjects(), letters(impl.MaxBytes), letters(impl.MaxBytes+1)) {
		checkPlacesOf(t, pack, text)
		sameList(t, fmt.Sprintf("pack %q", short(pack)), impl.PlacesOf(pack, text), nil)
		sameList(t, fmt.Sprintf("pack %q of nothing", short(pack)), impl.PlacesOf(pack, ""), nil)
	}
}

func TestPlacesOfKnown(t *testing.T) {
	a, b := impl.Blob{Kind: 1, Text: "a"}, impl.Blob{Kind: 2, Text: letters(70)}
	want := []impl.Place{{Key: wantKey(a), Pack: "p-1", Kind: 1, At: 37, Size: 1}, {Key: wantKey(b), Pack: "p-1", Kind: 2, At: 74, Size: 70}}
	if wantKey(a) > wantKey(b) {
		slices.Reverse(want)
	}
	sameList(t, "places", checkPlacesOf(t, "p-1", "xx"+recordsOf([]impl.Blob{a, b})), want)
	sameList(t, "places", impl.PlacesOf("p-1", "xx"+recordsOf([]impl.Blob{a, b})), want)
}

func TestPlacesOfTexts(t *testing.T) {
	r := rand.New(rand.NewSource(131))
	for i, text := range append(noRecords(), "", "B", letters(impl.MaxBytes), strings.Repeat("B", impl.MaxBytes)) {
		checkPlacesOf(t, "p", text)
		same(t, fmt.Sprint("none in ", i), len(wantScan(text)) > 0 || len(impl.PlacesOf("p", text)) == 0, true)
	}
	one := recordOf(impl.Blob{Kind: 2, Text: "one"})
	for _, ahead := range []string{"", "B", "x", "xB", one[:10], one[:len(one)-1], strings.Repeat("B", 500)} {
		for _, behind := range []string{"", "B", one[:36], strings.Repeat("B", 500)} {
			l := checkPlacesOf(t, "p", ahead+one+behind)
			same(t, "one", len(l), 1)
			same(t, "its place", l[0].At, int64(len(ahead)+35))
		}
	}
	full := one + letters(impl.MaxBytes-len(one))
	same(t, "of the longest text", len(checkPlacesOf(t, "p", full)), 1)
	for _, more := range []string{"\x00", "B", one, full} {
		checkPlacesOf(t, "p", full+more)
		sameList(t, "of too long a text", impl.PlacesOf("p", full+more), nil)
	}
	for range 100 {
		l := drawnPack(r)
		same(t, "of a right pack", len(checkPlacesOf(t, drawnObject(r), impl.PackBytes(l))), len(l))
		text := drawnText(r, r.Intn(100)) + recordsOf(l) + recordsOf(l[:r.Intn(len(l)+1)])
		checkPlacesOf(t, drawnObject(r), text)
		at := r.Intn(len(text))
		checkPlacesOf(t, drawnObject(r), text[:at]+drawnText(r, 1)+text[at+1:])
	}
}

// The text has the blobs in whatever order: places rise by their keys.
func TestPlacesOfInOrder(t *testing.T) {
	r := rand.New(rand.NewSource(132))
	for _, count := range []int{2, 3, 40, 299} {
		l := emptiest()[:count]
		byKeys := func(a, b impl.Blob) int { return strings.Compare(wantKey(a), wantKey(b)) }
		slices.SortFunc(l, byKeys)
		rising := checkPlacesOf(t, "p", recordsOf(l))
		for i, p := range rising {
			same(t, "a place", p.Key, wantKey(l[i]))
		}
		slices.Reverse(l)
		for _, p := range checkPlacesOf(t, "p", recordsOf(l)) {
			same(t, "there, too", wantFind(rising, p.Key).Code, impl.OK)
		}
		for range 5 {
			r.Shuffle(count, func(i, j int) { l[i], l[j] = l[j], l[i] })
			same(t, "all of them", len(checkPlacesOf(t, "p", recordsOf(l))), count)
		}
	}
}

func TestPlacesOfOneKeyTwice(t *testing.T) {
	a, b := impl.Blob{Kind: 1, Text: "same"}, impl.Blob{Kind: 2, Text: "same"}
	// Of one Text the two kinds have two keys.
	l := checkPlacesOf(t, "p", recordsOf([]impl.Blob{a, b, a, b, b, a}))
	same(t, "keys", len(l), 2)
	same(t, "the first one of a", wantFind(l, wantKey(a)).Place, impl.Place{Key: wantKey(a), Pack: "p", Kind: 1, At: 35, Size: 4})
	same(t, "the first one of b", wantFind(l, wantKey(b)).Place, impl.Place{Key: wantKey(b), Pack: "p", Kind: 2, At: 74, Size: 4})
	many := slices.Repeat([]impl.Blob{{Kind: 1}, {Kind: 2, Text: "x"}, {Kind: 1, Text: letters(64)}}, 100)
	same(t, "again and again", len(checkPlacesOf(t, "p", recordsOf(many))), 3)
	r := rand.New(rand.NewSource(133))
	for range 50 {
		some := someBlobs(1 + r.Intn(10))
		var text strings.Builder
		for range r.Intn(30) {
			text.WriteString(drawnText(r, r.Intn(3)) + recordOf(some[r.Intn(len(some))]))
		}
		checkPlacesOf(t, "p", text.String())
	}
}

// recordAt is a record whose Text begins at that place, behind bytes that are none.
func recordAt(b impl.Blob, at int) string {
	record := recordOf(b)
	return strings.Repeat("-", at-(len(record)-len(b.Text))) + record
}

func TestPlacesOfTheLastPlaces(t *testing.T) {
	for _, b := range []impl.Blob{{Kind: 1}, {Kind: 2, Text: "x"}, {Kind: 1, Text: letters(2000)}} {
		for at, want := range map[int]int{11999: 1, 12000: 1, 12001: 0, 12002: 0, 16000: 0} {
			text := recordAt(b, at)
			l := checkPlacesOf(t, "p", text)
			same(t, fmt.Sprint("places at ", at), len(l), want)
			same(t, "entries", len(impl.PackScan(text)), 1)
			early := recordOf(b) + text[len(recordOf(b)):]
			same(t, "the first one counts", wantFind(checkPlacesOf(t, "p", early), wantKey(b)).Place.At < 100, true)
			ahead := recordOf(impl.Blob{Kind: 1, Text: "ahead"})
			same(t, "the others stay", len(checkPlacesOf(t, "p", ahead+text[len(ahead):])), want+1)
		}
	}
}

func TestPlacesOfMoreThanThereMayBe(t *testing.T) {
	r := rand.New(rand.NewSource(134))
	all := emptiest()
	for _, count := range []int{299, 300, 301, 302, 320, 333} {
		for range 5 {
			r.Shuffle(len(all), func(i, j int) { all[i], all[j] = all[j], all[i] })
			text := recordsOf(all[:count])
			keys := map[string]bool{}
			for _, e := range wantScan(text) {
				if e.At <= 12000 {
					keys[e.Key] = true
				}
			}
			same(t, "keys", len(keys), count)
			want := slices.Sorted(maps.Keys(keys))
			l := checkPlacesOf(t, "p", text)
			same(t, "places", len(l), min(count, 300))
			for i, p := range l {
				same(t, "key", p.Key, want[i])
			}
		}
	}
	// Far more entries, but of no more keys than there may be.
	few := slices.Concat(all[:20], all[:10], all[:299])
	same(t, "one key often", len(checkPlacesOf(t, "p", recordsOf(few))), 299)
	same(t, "of the longest text", len(checkPlacesOf(t, "p", recordsOf(all))), 300)
}

func TestPlacesAddOfNone(t *testing.T) {
	for _, none := range [][]impl.Place{nil, {}} {
		same(t, "none and none", checkAdd(t, "none", none, nil).Code, impl.OK)
		same(t, "none and none", len(impl.PlacesAdd(none, none).Places), 0)
		for _, count := range []int{1, 2, 299, 300} {
			l := numbered(0, count)
			sameList(t, "behind none", checkAdd(t, "none", none, l).Places, l)
			sameList(t, "ahead of none", checkAdd(t, "none", l, none).Places, l)
		}
		for _, count := range []int{301, 400} {
			same(t, "too many", checkAdd(t, "none", none, numbered(0, count)).Code, impl.ErrForm)
			same(t, "too many", checkAdd(t, "none", numbered(0, count), none).Code, impl.ErrForm)
		}
	}
}

func TestPlacesAddOfOneListTwice(t *testing.T) {
	for _, count := range []int{1, 2, 3, 299, 300} {
		l := numbered(0, count)
		sameList(t, "alike", checkAdd(t, "alike", l, slices.Clone(l)).Places, l)
		// The very same memory.
		got := impl.PlacesAdd(l, l)
		wrecked(got.Places)
		sameList(t, "handed in twice", l, numbered(0, count))
		sameList(t, "handed in twice", impl.PlacesAdd(l, l).Places, numbered(0, count))
		sameList(t, "parts of one list", impl.PlacesAdd(l[:count/2], l[count/2:]).Places, l)
		sameList(t, "parts of one list, turned", impl.PlacesAdd(l[count/2:], l[:count/2]).Places, l)
	}
}

type addIn struct {
	a, b []impl.Place
}

func TestPlacesAddTellsTheFirstFault(t *testing.T) {
	right := func() addIn {
		return addIn{numbered(0, 150), numbered(150, 150)}
	}
	faults := []fault[addIn]{
		{impl.ErrSize, func(in *addIn) { in.a = slices.Concat(in.a, numbered(300, 401)) }},
		{impl.ErrSize, func(in *addIn) { in.b = slices.Concat(in.b, numbered(300, 401)) }},
		{impl.ErrForm, func(in *addIn) { in.a[70].Kind = 3 }},
		{impl.ErrForm, func(in *addIn) { in.b[70].Pack = "t-a" }},
		{impl.ErrForm, func(in *addIn) { in.b = append(in.b, in.b[0]) }},
		{impl.ErrFull, func(in *addIn) { in.a = append(in.a, numbered(1000, 1)...) }},
		{impl.ErrFull, func(in *addIn) { in.b = append(in.b, numbered(1002, 1)...) }},
	}
	firstFault(right, faults, func(in addIn, code int64) {
		same(t, "PlacesAdd", checkAdd(t, "faults", in.a, in.b).Code, code)
		same(t, "PlacesAdd", impl.PlacesAdd(in.a, in.b).Code, code)
	})
}

func TestPlacesAddBySizes(t *testing.T) {
	for _, count := range []int{300, 301, 399, 400, 401, 402, 800} {
		for _, other := range [][]impl.Place{nil, numbered(1000, 1), {{}}, numbered(0, 401), numbered(0, count)} {
			code := int64(impl.OK)
			switch {
			case count > 400 || len(other) > 400:
				code = impl.ErrSize
			case count > 300 || len(other) == 1 && other[0].Key == "":
				code = impl.ErrForm
			case len(other) == 1:
				code = impl.ErrFull
			}
			what := fmt.Sprint(count, " and ", len(other))
			same(t, what, checkAdd(t, what, numbered(0, count), other).Code, code)
			same(t, what, checkAdd(t, what, other, numbered(0, count)).Code, code)
			same(t, what, impl.PlacesAdd(numbered(0, count), other).Code, code)
			same(t, what, impl.PlacesAdd(other, numbered(0, count)).Code, code)
		}
	}
}

func TestPlacesAddUpToThePlacesThereMayBe(t *testing.T) {
	for _, c := range [][3]int{{1, 299, 0}, {150, 150, 0}, {299, 1, 0}, {300, 300, 300}, {300, 1, 1}, {200, 200, 100}, {299, 299, 298}, {250, 100, 50}} {
		a := numbered(0, c[0])
		b := numbered(c[0]-c[2], c[1])
		same(t, "together", c[0]+c[1]-c[2], 300)
		for _, l := range [][2][]impl.Place{{a, b}, {b, a}} {
			sameList(t, fmt.Sprint("just as many, ", c), checkAdd(t, "just as many", l[0], l[1]).Places, numbered(0, 300))
			if len(l[1]) == 300 {
				continue
			}
			more := append(slices.Clone(l[1]), numbered(1000, 1)...)
			same(t, fmt.Sprint("one more, ", c), checkAdd(t, "one more", l[0], more).Code, impl.ErrFull)
			same(t, fmt.Sprint("one more, ", c), checkAdd(t, "one more", more, l[0]).Code, impl.ErrFull)
		}
	}
	for _, c := range [][2]int{{1, 300}, {2, 299}, {150, 151}, {300, 300}} {
		for _, first := range []int{0, 1000} {
			a, b := numbered(first, c[0]), numbered(1000-first, c[1])
			same(t, fmt.Sprint("too many, ", c), checkAdd(t, "too many", a, b).Code, impl.ErrFull)
			sameList(t, "nothing beside it", impl.PlacesAdd(a, b).Places, nil)
		}
	}
}

// otherNumbers has another Kind, At and Size at each place.
func otherNumbers(l []impl.Place) []impl.Place {
	out := slices.Clone(l)
	for i, p := range l {
		out[i].Kind, out[i].At, out[i].Size = 3-p.Kind, 12000-p.At, 2000-p.Size
	}
	return out
}

func TestPlacesAddTellsTheFirstListsPlaces(t *testing.T) {
	for _, count := range []int{1, 2, 10, 300} {
		a := keyed(count)
		sameList(t, "all numbers", checkAdd(t, "all numbers", a, otherNumbers(a)).Places, a)
		sameList(t, "all numbers", checkAdd(t, "all numbers", otherNumbers(a), a).Places, otherNumbers(a))
		for _, at := range somePlaces(count) {
			for i, change := range []func(p *impl.Place){
				func(p *impl.Place) { p.Kind = 3 - p.Kind },
				func(p *impl.Place) { p.At++ },
				func(p *impl.Place) { p.Size++ },
			} {
				b := withPlace(count, at, change)
				sameList(t, fmt.Sprint("number ", i), checkAdd(t, "a number", a, b).Places, a)
				sameList(t, fmt.Sprint("number ", i), checkAdd(t, "a number", b, a).Places, b)
			}
		}
	}
	// Some of them are in both.
	a, b := numbered(0, 20), otherNumbers(numbered(10, 20))
	sameList(t, "some", checkAdd(t, "some", a, b).Places, slices.Concat(a, b[10:]))
	sameList(t, "some, turned", checkAdd(t, "some, turned", b, a).Places, slices.Concat(a[:10], b))
}

func TestPlacesAddOfOneKeyInTwoPacks(t *testing.T) {
	key := strings.Repeat("k", 32)
	a := []impl.Place{{Key: key, Pack: "a", Kind: 1, At: 1, Size: 1}, {Key: key, Pack: "c", Kind: 1, At: 3, Size: 3}}
	b := []impl.Place{{Key: key, Pack: "b", Kind: 2, At: 2, Size: 2}, {Key: key, Pack: "d", Kind: 2, At: 4, Size: 4}}
	want := []impl.Place{a[0], b[0], a[1], b[1]}
	sameList(t, "of one key", checkAdd(t, "of one key", a, b).Places, want)
	sameList(t, "of one key, turned", checkAdd(t, "of one key", b, a).Places, want)
	// What key and pack make together is no matter: these have one text so.
	c := []impl.Place{{Key: key[:31] + "a", Pack: "b", Kind: 1}}
	d := []impl.Place{{Key: key[:31] + "b", Pack: "b", Kind: 1}}
	sameList(t, "of two keys", checkAdd(t, "of two keys", d, c).Places, slices.Concat(c, d))
}

// Promise 16.
func TestPlacesGoTogetherEitherWay(t *testing.T) {
	r := rand.New(rand.NewSource(135))
	fulls := 0
	for i := range 400 {
		a, b := drawnBoth(r, []int{3, 20, 150, 300}[i%4])
		one, two := checkAdd(t, "drawn", a, b), checkAdd(t, "drawn, turned", b, a)
		same(t, "either way", one.Code, two.Code)
		same(t, "as many", len(one.Places), len(two.Places))
		if one.Code == impl.ErrFull {
			fulls++
			continue
		}
		same(t, "code", one.Code, impl.OK)
		same(t, "right", impl.PlacesRight(one.Places), true)
		for j, p := range one.Places {
			q := two.Places[j]
			same(t, "one spot", spotOf(p), spotOf(q))
			if p != q {
				same(t, "of the first list", slices.Contains(a, p) && slices.Contains(b, q), true)
			}
			same(t, "of one of them", slices.Contains(a, p) || slices.Contains(b, p), true)
		}
		for _, p := range a {
			same(t, "all of the first", slices.Contains(one.Places, p), true)
		}
		for _, p := range b {
			same(t, "all of the second", wantFind(two.Places, p.Key).Code, impl.OK)
			same(t, "all of the second", slices.Contains(two.Places, p), true)
		}
	}
	same(t, "some are too many, some are not", fulls > 0 && fulls < 300, true)
}

type findIn struct {
	l   []impl.Place
	key string
}

func TestPlacesFindTellsTheFirstFault(t *testing.T) {
	right := func() findIn {
		return findIn{numbered(0, 10), numbered(4, 1)[0].Key}
	}
	faults := []fault[findIn]{
		{impl.ErrSize, func(in *findIn) { in.l = slices.Concat(in.l, numbered(300, 401)) }},
		{impl.ErrSize, func(in *findIn) { in.key = letters(impl.MaxBytes + 1) }},
		{impl.ErrForm, func(in *findIn) { in.l[9].At = -1 }},
		{impl.ErrForm, func(in *findIn) { in.l = append(in.l, in.l[0]) }},
		{impl.ErrNone, func(in *findIn) { in.key = strings.Repeat("n", 32) }},
		{impl.ErrNone, func(in *findIn) { in.key = letters(impl.MaxBytes) }},
	}
	firstFault(right, faults, func(in findIn, code int64) {
		same(t, "PlacesFind", checkFind(t, in.l, in.key).Code, code)
		got := impl.PlacesFind(in.l, in.key)
		same(t, "PlacesFind", got.Code, code)
		same(t, "a place", got.Place != impl.Place{}, code == impl.OK)
	})
}

func TestPlacesFindBySizes(t *testing.T) {
	for _, count := range []int{0, 1, 300, 301, 400, 401, 800} {
		for _, size := range []int{0, 1, 31, 32, 33, 64, impl.MaxBytes - 1, impl.MaxBytes, impl.MaxBytes + 1, 2 * impl.MaxBytes} {
			code := int64(impl.ErrNone)
			if count > 400 || size > 20000 {
				code = impl.ErrSize
			} else if count > 300 {
				code = impl.ErrForm
			}
			what := fmt.Sprint(count, " places, ", size, " bytes")
			same(t, what, checkFind(t, numbered(0, count), strings.Repeat("x", size)).Code, code)
			same(t, what, impl.PlacesFind(numbered(0, count), strings.Repeat("x", size)), impl.PlaceOut{Code: code})
		}
	}
}

func TestPlacesFindOfKeys(t *testing.T) {
	for _, count := range []int{1, 2, 3, 40, 300} {
		l := numbered(0, count)
		for i, p := range l {
			want := l[i-i%2]
			same(t, "the first of two packs", checkFind(t, l, p.Key).Place, want)
			same(t, "the first of two packs", impl.PlacesFind(l, p.Key).Place, want)
			for _, key := range []string{p.Key[:31], p.Key + "\x00", p.Key + p.Pack, p.Key[1:], "", p.Pack, impl.Hex(p.Key), p.Key[:31] + "x", "x" + p.Key[1:]} {
				same(t, "no key of these", impl.PlacesFind(l, key), impl.PlaceOut{Code: impl.ErrNone})
			}
		}
	}
	var many []impl.Place
	for i := range 300 {
		many = append(many, impl.Place{Key: strings.Repeat("k", 32), Pack: fmt.Sprintf("p%03d", i), Kind: 1, At: int64(i)})
	}
	same(t, "the first of all packs", checkFind(t, many, many[7].Key), impl.PlaceOut{Place: many[0]})
	same(t, "less than all", checkFind(t, many, strings.Repeat("a", 32)).Code, impl.ErrNone)
	same(t, "greater than all", checkFind(t, many, strings.Repeat("z", 32)).Code, impl.ErrNone)
	same(t, "of no places", checkFind(t, nil, strings.Repeat("k", 32)).Code, impl.ErrNone)
	same(t, "the empty key of none", checkFind(t, nil, "").Code, impl.ErrNone)
}

// Promise 16.
func TestPlacesFoundAreAmongThem(t *testing.T) {
	r := rand.New(rand.NewSource(136))
	for i := range 300 {
		l := drawnPlaces(r, []int{2, 30, 300}[i%3])
		keys := []string{drawnKey(r), drawnKey(r), drawnText(r, r.Intn(34))}
		if len(l) > 0 {
			keys = append(keys, l[r.Intn(len(l))].Key, l[0].Key, l[len(l)-1].Key)
		}
		for _, key := range keys {
			checkFind(t, l, key)
			got := impl.PlacesFind(l, key)
			is := slices.ContainsFunc(l, func(p impl.Place) bool { return p.Key == key })
			same(t, "found", got.Code == impl.OK, is)
			same(t, "among them", slices.Contains(l, got.Place), is)
			if is {
				same(t, "its key", got.Place.Key, key)
			}
		}
	}
}

func TestPlacesDropOfPacks(t *testing.T) {
	for _, count := range []int{0, 1, 2, 3, 40, 300} {
		l := numbered(0, count)
		for i, pack := range []string{"p-a", "p-b"} {
			left := checkDrop(t, l, pack)
			same(t, "left", len(left), count/2+(count%2)*i)
			same(t, "none of the pack", slices.ContainsFunc(left, func(p impl.Place) bool { return p.Pack == pack }), false)
			sameList(t, "again", checkDrop(t, left, pack), left)
			sameList(t, "and the other", impl.PlacesDrop(left, []string{"p-b", "p-a"}[i]), nil)
		}
		for _, pack := range []string{"", "p", "p-", "p-c", "p-aa", "P-a", "t-a", "a", letters(32), strings.Repeat("p", 61), letters(impl.MaxBytes - 1), letters(impl.MaxBytes)} {
			sameList(t, fmt.Sprintf("pack %q, which is not there", short(pack)), checkDrop(t, l, pack), l)
			sameList(t, fmt.Sprintf("pack %q, which is not there", short(pack)), impl.PlacesDrop(l, pack), l)
		}
		for _, size := range []int{impl.MaxBytes + 1, 2 * impl.MaxBytes} {
			checkDrop(t, l, letters(size))
			sameList(t, "too long a pack", impl.PlacesDrop(l, letters(size)), nil)
		}
	}
	var one []impl.Place
	for i := range 300 {
		one = append(one, impl.Place{Key: fmt.Sprintf("%032d", i), Pack: "p", Kind: 1})
	}
	sameList(t, "all of one pack", checkDrop(t, one, "p"), nil)
	sameList(t, "none of them", checkDrop(t, one, "q"), one)
}

func TestPlacesDropOfWhatIsNotRight(t *testing.T) {
	for _, count := range []int{301, 400, 401, 800} {
		for _, pack := range []string{"p-a", "none", ""} {
			checkDrop(t, numbered(0, count), pack)
			sameList(t, fmt.Sprint(count, " places"), impl.PlacesDrop(numbered(0, count), pack), nil)
		}
	}
	l := numbered(0, 10)
	l[4].Kind = 0
	for _, pack := range []string{"p-a", "p-b", "none"} {
		checkDrop(t, l, pack)
		sameList(t, "not right", impl.PlacesDrop(l, pack), nil)
	}
}

// Promise 16.
func TestPlacesDroppedAreGone(t *testing.T) {
	r := rand.New(rand.NewSource(137))
	for i := range 300 {
		l := drawnPlaces(r, []int{2, 30, 300}[i%3])
		packs := []string{drawnObject(r), "none"}
		if len(l) > 0 {
			packs = append(packs, l[r.Intn(len(l))].Pack)
		}
		for _, pack := range packs {
			checkDrop(t, l, pack)
			left := impl.PlacesDrop(l, pack)
			same(t, "right", impl.PlacesRight(left), true)
			for _, p := range l {
				same(t, "there, or dropped", slices.Contains(left, p), p.Pack != pack)
			}
			for _, p := range left {
				same(t, "of those that were", slices.Contains(l, p), true)
			}
		}
	}
}

func TestPlacesBytesKnown(t *testing.T) {
	for _, none := range [][]impl.Place{nil, {}} {
		same(t, "of no places", checkPlacesBytes(t, none), "\x00")
		same(t, "of no places", impl.PlacesBytes(none), "\x00")
	}
	same(t, "no places", impl.PlacesRead("\x00").Code, impl.OK)
	same(t, "no places", len(impl.PlacesRead("\x00").Places), 0)
	a, b := strings.Repeat("a", 32), strings.Repeat("\xff", 32)
	l := []impl.Place{{Key: a, Pack: "p-1", Kind: 1, At: 35, Size: 5}, {Key: a, Pack: "p-2", Kind: 2, At: 12000, Size: 2000}, {Key: b, Pack: "x", Kind: 1}}
	want := "\x06" + a + "\x06p-1\x02\x46\x0a" + a + "\x06p-2\x04\xc0\xbb\x01\xa0\x1f" + b + "\x02x\x02\x00\x00"
	same(t, "bytes", checkPlacesBytes(t, l), want)
	same(t, "bytes", impl.PlacesBytes(l), want)
	sameList(t, "back", impl.PlacesRead(want).Places, l)
	for _, count := range []int{63, 64, 300} {
		text := checkPlacesBytes(t, numbered(0, count))
		same(t, "how many there are", strings.HasPrefix(text, varint(int64(count))), true)
	}
}

func TestPlacesBytesOfWhatIsNotRight(t *testing.T) {
	for _, count := range []int{301, 400, 401, 800} {
		checkPlacesBytes(t, numbered(0, count))
		same(t, "too many", impl.PlacesBytes(numbered(0, count)), "")
	}
	l := numbered(0, 10)
	l[3], l[4] = l[4], l[3]
	same(t, "turned", impl.PlacesBytes(l), "")
}

// packsOf are so many right places whose bytes are of that size.
func packsOf(t *testing.T, count int, size int) []impl.Place {
	t.Helper()
	l := keyed(count)
	for i := range l {
		l[i].Pack = "p"
	}
	for i := range l {
		more := size - len(placesBytes(l))
		l[i].Pack = "p" + strings.Repeat("a", min(more, 59))
	}
	same(t, "bytes", len(placesBytes(l)), size)
	return l
}

func TestPlacesOfMostBytes(t *testing.T) {
	for _, count := range []int{300, 299, 250} {
		for _, size := range []int{impl.MaxBytes - 1, impl.MaxBytes, impl.MaxBytes + 1, impl.MaxBytes + 2} {
			l := packsOf(t, count, size)
			text := checkPlacesBytes(t, l)
			same(t, "bytes", impl.PlacesBytes(l), text)
			same(t, "bytes", len(text), size)
			got := impl.PlacesRead(text)
			if size > 20000 {
				same(t, "too many bytes", got.Code, impl.ErrSize)
				sameList(t, "nothing beside it", got.Places, nil)
				continue
			}
			same(t, "code", got.Code, impl.OK)
			sameList(t, "back", got.Places, l)
		}
	}
	// Texts of more bytes are refused, whatever they are.
	for _, text := range []string{letters(impl.MaxBytes), strings.Repeat("\x00", impl.MaxBytes), strings.Repeat("\x80", impl.MaxBytes)} {
		noPlaces(t, "of MaxBytes bytes", text)
		for _, more := range []string{"\x00", "x", text} {
			checkPlacesRead(t, text+more)
			same(t, "of more", impl.PlacesRead(text+more).Code, impl.ErrSize)
		}
	}
}

// Promise 16.
func TestPlacesComeBack(t *testing.T) {
	r := rand.New(rand.NewSource(138))
	for i := range 600 {
		l := drawnPlaces(r, []int{1, 5, 40, 300}[i%4])
		text := checkPlacesBytes(t, l)
		same(t, "bytes", impl.PlacesBytes(l), text)
		if len(text) <= impl.MaxBytes {
			got := impl.PlacesRead(text)
			same(t, "code", got.Code, impl.OK)
			sameList(t, "back", got.Places, l)
		}
	}
	for _, count := range []int{0, 1, 2, 63, 64, 299, 300} {
		sameList(t, "back", impl.PlacesRead(impl.PlacesBytes(numbered(0, count))).Places, numbered(0, count))
	}
	for range 50 {
		pack := drawnPack(r)
		l := impl.PlacesOf("p-0123456789abcdef", impl.PackBytes(pack))
		sameList(t, "those of a pack", impl.PlacesRead(impl.PlacesBytes(l)).Places, l)
		for _, b := range pack {
			p := impl.PlacesFind(l, impl.BlobKey(b)).Place
			e := impl.Entry{Key: p.Key, Kind: p.Kind, At: p.At, Size: p.Size}
			same(t, "got", impl.PackGet(impl.PackBytes(pack), e), impl.BlobOut{Blob: b})
		}
	}
}

// Promise 16.
func TestPlacesThatAreChanged(t *testing.T) {
	r := rand.New(rand.NewSource(139))
	for _, l := range [][]impl.Place{
		nil, numbered(0, 1), numbered(0, 3), otherNumbers(numbered(5, 3)), drawnPlaces(r, 4),
		{{Key: strings.Repeat("\x00", 32), Pack: strings.Repeat("a", 60), Kind: 1}, {Key: strings.Repeat("F", 32), Pack: "f", Kind: 2, At: 70, Size: 70}},
	} {
		text := placesBytes(l)
		others, told := changedBytes(r, text), 0
		for _, other := range others {
			if checkPlacesRead(t, other).Code == impl.OK {
				told++
				same(t, "just these bytes", impl.PlacesBytes(impl.PlacesRead(other).Places), other)
			}
		}
		same(t, "not all of them are told", told < len(others), true)
		for at := range len(text) {
			noPlaces(t, fmt.Sprint("cut off at ", at), text[:at])
			same(t, "cut", impl.PlacesRead(text[:at]).Code, impl.ErrSyntax)
		}
		for b := range 256 {
			noPlaces(t, "with a byte behind", text+string([]byte{byte(b)}))
		}
		noPlaces(t, "with itself behind", text+text)
		noPlaces(t, "with a place behind", text+placeBytes(impl.Place{Key: strings.Repeat("\xff", 32), Pack: "z", Kind: 1}))
	}
	// Each byte that may stand in the place of one.
	text := placesBytes(numbered(7, 2))
	for at := range text {
		for b := range 256 {
			other := text[:at] + string([]byte{byte(b)}) + text[at+1:]
			got := impl.PlacesRead(other)
			same(t, "code", got.Code, wantPlacesRead(other).Code)
			sameList(t, "places", got.Places, wantPlacesRead(other).Places)
		}
	}
}

// Promise 16.
func TestPlacesReadOfDrawnBytes(t *testing.T) {
	r := rand.New(rand.NewSource(140))
	checkPlacesRead(t, "")
	same(t, "the empty text", impl.PlacesRead("").Code, impl.ErrSyntax)
	for b := range 256 {
		text := string([]byte{byte(b)})
		checkPlacesRead(t, text)
		same(t, "one byte", impl.PlacesRead(text).Code == impl.OK, b == 0)
	}
	for range 1000 {
		checkPlacesRead(t, drawnText(r, r.Intn(100)))
		checkPlacesRead(t, varint(r.Int63n(4))+drawnText(r, r.Intn(100)))
	}
	// Parts that are nearly right, put together as they come.
	for range 3000 {
		count := r.Int63n(4)
		text := varint(count)
		for range count {
			p := drawnPlace(r)
			switch r.Intn(12) {
			case 0:
				p.Kind = r.Int63n(4)
			case 1:
				p.At = edges(impl.MaxPack)[r.Intn(13)]
			case 2:
				p.Size = edges(impl.MaxBlob)[r.Intn(13)]
			case 3:
				p.Pack = wrongObjects()[r.Intn(30)]
			case 4:
				p.Key = p.Key[r.Intn(2):]
			}
			text += placeBytes(p)
		}
		checkPlacesRead(t, text)
	}
}

func TestPlacesReadOfCounts(t *testing.T) {
	for _, there := range []int{0, 1, 2, 10, 299, 300, 301, 330} {
		l := numbered(0, there)
		for _, count := range []int64{-1, -2, -300, 0, 1, int64(there) - 1, int64(there), int64(there) + 1, 299, 300, 301, 400, 401,
			256, 1<<32 + int64(there), math.MinInt64, math.MinInt64 + 1, math.MaxInt64} {
			text := countedBytes(count, l)
			checkPlacesRead(t, text)
			what := fmt.Sprint(count, " told of ", there)
			right := count == int64(there) && there <= 300
			same(t, what, impl.PlacesRead(text).Code == impl.OK, right)
			if !right {
				noPlaces(t, what, text)
			}
		}
	}
}

// longNumber tells a number by one byte more than it needs.
func longNumber(n int64) string {
	bytes := varint(n)
	last := len(bytes) - 1
	return bytes[:last] + string([]byte{bytes[last] | 128}) + "\x00"
}

func TestPlacesReadOfLongNumbers(t *testing.T) {
	key := strings.Repeat("k", 32)
	for _, n := range [][3]int64{{1, 0, 0}, {2, 35, 5}, {1, 64, 64}, {2, 8191, 1999}, {2, 12000, 2000}} {
		told := []string{varint(1), key, varint(1), "p", varint(n[0]), varint(n[1]), varint(n[2])}
		same(t, "as it is to be", checkPlacesRead(t, strings.Join(told, "")).Code, impl.OK)
		same(t, "as it is to be", impl.PlacesRead(strings.Join(told, "")).Code, impl.OK)
		for at, number := range map[int]int64{0: 1, 2: 1, 4: n[0], 5: n[1], 6: n[2]} {
			for _, long := range []string{longNumber(number), longNumber(number)[:len(varint(number))] + "\x80\x00", varint(number) + "\x00",
				"", "\x80", "\xff", strings.Repeat("\x80", 10), strings.Repeat("\xff", 9) + "\x02", varint(-number - 1)} {
				other := slices.Clone(told)
				other[at] = long
				noPlaces(t, fmt.Sprintf("number %d as %q", at, long), strings.Join(other, ""))
			}
		}
	}
	noPlaces(t, "no places, by two bytes", "\x80\x00")
	noPlaces(t, "no places, by ten bytes", strings.Repeat("\x80", 9)+"\x00")
}

func TestPlacesReadOfPacks(t *testing.T) {
	key := strings.Repeat("k", 32)
	for _, pack := range wrongObjects() {
		text := varint(1) + key + varint(int64(len(pack))) + pack + "\x02\x00\x00"
		if len(text) <= impl.MaxBytes {
			noPlaces(t, fmt.Sprintf("pack %q", short(pack)), text)
		}
		checkPlacesRead(t, text)
	}
	for _, size := range []int64{-1, 0, 1, 3, 5, 6, 60, 61, 256 + 2, 1<<32 + 2, impl.MaxBytes, impl.MaxBytes + 1, math.MinInt64, math.MaxInt64} {
		noPlaces(t, fmt.Sprint("a pack of 2 bytes told to have ", size), varint(1)+key+varint(size)+"pp"+"\x02\x00\x00")
	}
	same(t, "a right one", impl.PlacesRead(varint(1)+key+varint(2)+"pp"+"\x02\x00\x00").Code, impl.OK)
}

func TestPlacesReadOfWhatIsNotRight(t *testing.T) {
	for _, o := range orders() {
		same(t, o.what, checkPlacesRead(t, placesBytes([]impl.Place{o.a, o.b})).Code == impl.OK, o.is)
		same(t, o.what, impl.PlacesRead(placesBytes([]impl.Place{o.a, o.b})).Code == impl.OK, o.is)
		same(t, o.what+", turned", impl.PlacesRead(placesBytes([]impl.Place{o.b, o.a})).Code == impl.OK, o.was)
	}
	for i, change := range []func(p *impl.Place){
		func(p *impl.Place) { p.Kind = 0 },
		func(p *impl.Place) { p.Kind = 3 },
		func(p *impl.Place) { p.At = -1 },
		func(p *impl.Place) { p.At = 12001 },
		func(p *impl.Place) { p.Size = -1 },
		func(p *impl.Place) { p.Size = 2001 },
		func(p *impl.Place) { p.Size = math.MaxInt64 },
		func(p *impl.Place) { p.At = math.MinInt64 },
		func(p *impl.Place) { p.Pack = "t-a" },
		func(p *impl.Place) { p.Key = "\xff" + p.Key[1:] },
	} {
		for _, at := range []int{0, 5, 8} {
			noPlaces(t, fmt.Sprint("fault ", i, " at ", at), placesBytes(withPlace(10, at, change)))
		}
	}
}

// What a map has is gone through in another order each time.
func TestPlacesAreToldInOneOrder(t *testing.T) {
	a, b := numbered(0, 200), otherNumbers(numbered(100, 200))
	text := recordsOf(emptiest())
	add, drop, of := wantAdd(a, b).Places, wantDrop(a, "p-a"), wantPlacesOf("p", text)
	for range 50 {
		sameList(t, "PlacesAdd", impl.PlacesAdd(a, b).Places, add)
		sameList(t, "PlacesDrop", impl.PlacesDrop(a, "p-a"), drop)
		sameList(t, "PlacesOf", impl.PlacesOf("p", text), of)
	}
}

func TestPlacesSideBySide(t *testing.T) {
	const workers = 16
	l, text := numbered(0, 150), recordsOf(someBlobs(40))
	var adds, reads [workers]impl.PlacesOut
	var drops, ofs [workers][]impl.Place
	var finds [workers]impl.PlaceOut
	var group sync.WaitGroup
	for i := range workers {
		group.Go(func() {
			adds[i] = impl.PlacesAdd(l, numbered(140, 10+i))
			reads[i] = impl.PlacesRead(impl.PlacesBytes(l))
			drops[i] = impl.PlacesDrop(l, "p-a")
			ofs[i] = impl.PlacesOf("p", text)
			finds[i] = impl.PlacesFind(l, l[i].Key)
		})
	}
	group.Wait()
	for i := range workers {
		sameList(t, "PlacesAdd", adds[i].Places, numbered(0, 150+i))
		sameList(t, "PlacesRead", reads[i].Places, l)
		sameList(t, "PlacesDrop", drops[i], wantDrop(l, "p-a"))
		sameList(t, "PlacesOf", ofs[i], wantPlacesOf("p", text))
		same(t, "PlacesFind", finds[i].Place, l[i-i%2])
	}
}
