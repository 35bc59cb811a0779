package tests

import (
	"fmt"
	"maps"
	"math"
	"math/rand"
	"regexp"
	"slices"
	"strings"
	"sync"
	"testing"

	"loop.example/g00259/impl"
)

// snapPattern is chapter 13's for the Name of a Snap.
var snapPattern = regexp.MustCompile(`^[a-z][a-z0-9-]{0,19}$`)

func wantSnapRight(s impl.Snap) bool {
	return snapPattern.MatchString(s.Name) && s.Day >= 0 && s.Day <= 1000000 && len(s.Root) == 32
}

// snapBytes takes Snaps that are not right, too.
func snapBytes(s impl.Snap) string {
	return "S" + varint(int64(len(s.Name))) + s.Name + varint(s.Day) + s.Root
}

func wantSnapRead(text string) impl.SnapOut {
	if len(text) > 20000 {
		return impl.SnapOut{Code: impl.ErrSize}
	}
	r := reading{rest: text}
	first := r.take(1)
	s := impl.Snap{Name: r.take(r.number()), Day: r.number()}
	s.Root = r.rest
	if first != "\x53" || r.failed || !wantSnapRight(s) {
		return impl.SnapOut{Code: impl.ErrSyntax}
	}
	return impl.SnapOut{Snap: s}
}

// wantObjects are the texts of the objects whose names begin so, of those that can be got.
func wantObjects(a impl.Array, begin string) map[string]string {
	texts := map[string]string{}
	for _, name := range wantObjectNames(a) {
		if got := wantObjectGet(a, name); got.Code == impl.OK && strings.HasPrefix(name, begin) {
			texts[name] = got.Text
		}
	}
	return texts
}

func wantSnaps(a impl.Array) []impl.Snap {
	var l []impl.Snap
	texts := wantObjects(a, "s-")
	for _, name := range slices.Sorted(maps.Keys(texts)) {
		if out := wantSnapRead(texts[name]); out.Code == impl.OK && out.Snap.Name == name[2:] {
			l = append(l, out.Snap)
		}
	}
	return l
}

// A store is what the packs of an array have, as the test has it.
type store struct {
	places []impl.Place
	blobs  []impl.Blob
}

func storeOf(a impl.Array) store {
	spots, texts := map[string]impl.Place{}, wantObjects(a, "p-")
	for name, text := range texts {
		for _, p := range wantPlacesOf(name, text) {
			spots[spotOf(p)] = p
		}
	}
	s := store{places: risen(spots)}
	for _, p := range s.places {
		s.blobs = append(s.blobs, impl.Blob{Kind: p.Kind, Text: texts[p.Pack][p.At : p.At+p.Size]})
	}
	return s
}

func wantRepoPlaces(a impl.Array) impl.PlacesOut {
	if !wantArrayRight(a) {
		return impl.PlacesOut{Code: impl.ErrForm}
	}
	return impl.PlacesOut{Places: storeOf(a).places}
}

func wantRepoBlob(a impl.Array, key string) impl.BlobOut {
	if len(key) > 20000 {
		return impl.BlobOut{Code: impl.ErrSize}
	}
	if !wantArrayRight(a) {
		return impl.BlobOut{Code: impl.ErrForm}
	}
	s := storeOf(a)
	for i, p := range s.places {
		if p.Key == key {
			return impl.BlobOut{Blob: s.blobs[i]}
		}
	}
	return impl.BlobOut{Code: impl.ErrNone}
}

func wantPackName(text string) string {
	if len(text) > 20000 {
		return ""
	}
	return fmt.Sprintf("p-%x", sha(text)[:8])
}

// wantFilled puts blob by blob into packs: the last one of these is the one at hand.
func wantFilled(l []impl.Blob) [][]impl.Blob {
	var packs [][]impl.Blob
	for _, b := range l {
		last := len(packs) - 1
		if last >= 0 && wantPackRight(append(slices.Clone(packs[last]), b)) {
			packs[last] = append(packs[last], b)
		} else {
			packs = append(packs, []impl.Blob{b})
		}
	}
	return packs
}

func wantBackup(a impl.Array, tag int64, c impl.Cutting, name string, day int64, l []impl.File) impl.StepsOut {
	if len(name) > 20000 || len(l) > 400 {
		return impl.StepsOut{Code: impl.ErrSize}
	}
	if !wantArrayRight(a) || tag < 0 || tag > 9 || day < 0 || day > 1000000 || !snapPattern.MatchString(name) {
		return impl.StepsOut{Code: impl.ErrForm}
	}
	if wantObjectGet(a, "s-"+name).Code == impl.OK {
		return impl.StepsOut{Code: impl.ErrThere}
	}
	tree := wantTree(c, l)
	if tree.Code != impl.OK {
		return impl.StepsOut{Code: tree.Code}
	}
	known := storeOf(a).blobs
	added := slices.DeleteFunc(tree.Blobs, func(b impl.Blob) bool { return slices.Contains(known, b) })
	out := impl.StepsOut{Added: int64(len(added))}
	for _, pack := range wantFilled(added) {
		text := recordsOf(pack)
		out.Steps = append(out.Steps, wantPut(a, tag, wantPackName(text), text)...)
	}
	snap := snapBytes(impl.Snap{Name: name, Day: day, Root: tree.Root})
	out.Steps = append(out.Steps, wantPut(a, tag, "s-"+name, snap)...)
	if len(out.Steps) > 400 {
		return impl.StepsOut{Code: impl.ErrFull}
	}
	return out
}

func wantRestore(a impl.Array, name string) impl.FilesOut {
	if len(name) > 20000 {
		return impl.FilesOut{Code: impl.ErrSize}
	}
	if !wantArrayRight(a) || !snapPattern.MatchString(name) {
		return impl.FilesOut{Code: impl.ErrForm}
	}
	got := wantObjectGet(a, "s-"+name)
	if got.Code != impl.OK {
		return impl.FilesOut{Code: got.Code}
	}
	snap := wantSnapRead(got.Text)
	if snap.Code != impl.OK || snap.Snap.Name != name {
		return impl.FilesOut{Code: impl.ErrSyntax}
	}
	out, _ := strolled(storeOf(a).blobs, snap.Snap.Root)
	return out
}

// askTwice is telling's twice, of a call that takes an array.
func askTwice[A any](t *testing.T, a impl.Array, q telling[A], call func(a impl.Array) A) {
	t.Helper()
	given, others := q.memory.array(a), q.unchanged
	q.call = func() A { return call(given) }
	q.unchanged = func(what string) {
		t.Helper()
		arrayUnchanged(t, what, given, a)
		if others != nil {
			others(what)
		}
	}
	q.twice(t)
}

func checkSnap(t *testing.T, what string, s impl.Snap, want bool) {
	t.Helper()
	same(t, what+": as the test has it", wantSnapRight(s), want)
	m, text := &softMemory{}, ""
	given := impl.Snap{Name: m.text(s.Name), Day: s.Day, Root: m.text(s.Root)}
	for range 2 {
		same(t, what+": right", impl.SnapRight(given), want)
	}
	if want {
		text = snapBytes(s)
	}
	telling[string]{what + ": bytes", m,
		func() string { return impl.SnapBytes(given) },
		func(what string) { same(t, what, given, s) },
		func(what string, got string) { same(t, what, got, text) },
		func(got string) []string { return []string{got} },
		func(string) {}}.twice(t)
	out := impl.SnapOut{Code: impl.ErrSyntax}
	if want {
		out = impl.SnapOut{Snap: s}
	} else if len(snapBytes(s)) > impl.MaxBytes {
		out.Code = impl.ErrSize
	}
	same(t, what+": back", checkSnapRead(t, snapBytes(s)), out)
	same(t, what+": told back", impl.SnapRead(snapBytes(s)), out)
}

// checkSnapRead also asks that a Snap that is read has just these bytes.
func checkSnapRead(t *testing.T, text string) impl.SnapOut {
	t.Helper()
	what := fmt.Sprintf("SnapRead of %d bytes", len(text))
	want, m := wantSnapRead(text), &softMemory{}
	given := m.text(text)
	told := func(what string, got impl.SnapOut) {
		t.Helper()
		same(t, what, got, want)
		if want.Code == impl.OK {
			same(t, what+": bytes", impl.SnapBytes(got.Snap), text)
			same(t, what+": right", impl.SnapRight(got.Snap), true)
		}
	}
	telling[impl.SnapOut]{what, m,
		func() impl.SnapOut { return impl.SnapRead(given) },
		func(what string) { same(t, what+": text", given, text) },
		told,
		func(out impl.SnapOut) []string { return []string{out.Snap.Name, out.Snap.Root} },
		func(impl.SnapOut) {}}.twice(t)
	return want
}

// noSnap is of texts that are no Snap's bytes, and are not too long.
func noSnap(t *testing.T, what string, text string) {
	t.Helper()
	checkSnapRead(t, text)
	same(t, what, impl.SnapRead(text), impl.SnapOut{Code: impl.ErrSyntax})
}

func checkSnaps(t *testing.T, what string, a impl.Array) []impl.Snap {
	t.Helper()
	want := wantSnaps(a)
	askTwice(t, a, telling[[]impl.Snap]{what: "Snaps, " + what, memory: &softMemory{},
		told: func(what string, got []impl.Snap) {
			t.Helper()
			sameList(t, what, got, want)
		},
		texts: func(l []impl.Snap) []string {
			var texts []string
			for _, s := range l {
				texts = append(texts, s.Name, s.Root)
			}
			return texts
		},
		wreck: wrecked[impl.Snap]}, impl.Snaps)
	return want
}

func checkRepoPlaces(t *testing.T, what string, a impl.Array) impl.PlacesOut {
	t.Helper()
	want := wantRepoPlaces(a)
	askTwice(t, a, telling[impl.PlacesOut]{what: "RepoPlaces, " + what, memory: &softMemory{},
		told: func(what string, got impl.PlacesOut) {
			t.Helper()
			same(t, what+": code", got.Code, want.Code)
			sameList(t, what, got.Places, want.Places)
		},
		texts: func(out impl.PlacesOut) []string {
			var texts []string
			for _, p := range out.Places {
				texts = append(texts, p.Key, p.Pack)
			}
			return texts
		},
		wreck: func(out impl.PlacesOut) { wrecked(out.Places) }}, impl.RepoPlaces)
	return want
}

func checkRepoBlob(t *testing.T, what string, a impl.Array, key string) impl.BlobOut {
	t.Helper()
	want, m := wantRepoBlob(a, key), &softMemory{}
	asked := m.text(key)
	askTwice(t, a, telling[impl.BlobOut]{what: "RepoBlob, " + what, memory: m,
		unchanged: func(what string) { same(t, what+": key", asked, key) },
		told: func(what string, got impl.BlobOut) {
			t.Helper()
			same(t, what, got, want)
		},
		texts: func(out impl.BlobOut) []string { return []string{out.Blob.Text} },
		wreck: func(impl.BlobOut) {}},
		func(a impl.Array) impl.BlobOut { return impl.RepoBlob(a, asked) })
	return want
}

// A saving is what BackupSteps is handed beside an array.
type saving struct {
	tag   int64
	c     impl.Cutting
	name  string
	day   int64
	files []impl.File
}

func (s saving) steps(a impl.Array) impl.StepsOut {
	return impl.BackupSteps(a, s.tag, s.c, s.name, s.day, s.files)
}

func savingOf(name string, l ...impl.File) saving {
	return saving{c: sixteens(), name: name, day: 7, files: l}
}

func checkBackup(t *testing.T, what string, a impl.Array, s saving) impl.StepsOut {
	t.Helper()
	want, m := wantBackup(a, s.tag, s.c, s.name, s.day, s.files), &softMemory{}
	given, name := m.files(s.files), m.text(s.name)
	askTwice(t, a, telling[impl.StepsOut]{what: fmt.Sprintf("BackupSteps of %q, %s", short(s.name), what), memory: m,
		unchanged: func(what string) {
			t.Helper()
			listUnchanged(t, what, given, s.files, behindFiles())
			same(t, what+": name", name, s.name)
		},
		told: func(what string, got impl.StepsOut) {
			t.Helper()
			same(t, what+": code", got.Code, want.Code)
			same(t, what+": added", got.Added, want.Added)
			sameList(t, what, got.Steps, want.Steps)
		},
		texts: func(out impl.StepsOut) []string {
			var texts []string
			for _, step := range out.Steps {
				texts = append(texts, step.Op.Name, step.Op.To, step.Op.Text)
			}
			return texts
		},
		wreck: func(out impl.StepsOut) { wrecked(out.Steps) }},
		func(a impl.Array) impl.StepsOut { return impl.BackupSteps(a, s.tag, s.c, name, s.day, given) })
	return want
}

// backupTells asks for a code, and for nothing beside it, unless it is OK.
func backupTells(t *testing.T, what string, a impl.Array, s saving, code int64) impl.StepsOut {
	t.Helper()
	same(t, what+": as the test has it", checkBackup(t, what, a, s).Code, code)
	got := s.steps(a)
	same(t, what+": code", got.Code, code)
	same(t, what+": steps", len(got.Steps) > 0, code == impl.OK)
	if code != impl.OK {
		same(t, what+": added", got.Added, 0)
	}
	return got
}

func checkRestore(t *testing.T, what string, a impl.Array, name string) impl.FilesOut {
	t.Helper()
	want, m := wantRestore(a, name), &softMemory{}
	asked := m.text(name)
	askTwice(t, a, telling[impl.FilesOut]{what: fmt.Sprintf("Restore of %q, %s", short(name), what), memory: m,
		unchanged: func(what string) { same(t, what+": name", asked, name) },
		told: func(what string, got impl.FilesOut) {
			t.Helper()
			same(t, what+": code", got.Code, want.Code)
			sameList(t, what, got.Files, want.Files)
		},
		texts: func(out impl.FilesOut) []string { return walked{out: out}.texts() },
		wreck: func(out impl.FilesOut) { wrecked(out.Files) }},
		func(a impl.Array) impl.FilesOut { return impl.Restore(a, asked) })
	return want
}

// restoreTells asks for a code, and for no files beside it, unless it is OK.
func restoreTells(t *testing.T, what string, a impl.Array, name string, code int64) {
	t.Helper()
	same(t, what+": as the test has it", checkRestore(t, what, a, name).Code, code)
	got := impl.Restore(a, name)
	same(t, what+": code", got.Code, code)
	if code != impl.OK {
		sameList(t, what+": no files", got.Files, nil)
	}
}

// restores asks for just these files.
func restores(t *testing.T, what string, a impl.Array, name string, l []impl.File) {
	t.Helper()
	got := impl.Restore(a, name)
	same(t, what+": code of "+name, got.Code, impl.OK)
	sameList(t, what+": files of "+name, got.Files, l)
}

// withObject has all frames of a text, in the place of what its drives have of that name.
func withObject(a impl.Array, name string, text string) impl.Array {
	for i, frame := range framesFor(code{a.K, a.M}, text) {
		a = withFileOn(a, i, name, frame)
	}
	return a
}

// withPack has a pack under its name.
func withPack(a impl.Array, l ...impl.Blob) impl.Array {
	text := recordsOf(l)
	return withObject(a, wantPackName(text), text)
}

func withSnap(a impl.Array, s impl.Snap) impl.Array {
	return withObject(a, "s-"+s.Name, snapBytes(s))
}

// hurtOn has no frame of that name on so many drives, from one on.
func hurtOn(a impl.Array, name string, from int, count int64) impl.Array {
	for i := range int(count) {
		drive := (from + i) % len(a.Drives)
		if i%2 == 0 {
			a = withoutFileOn(a, drive, name)
		} else {
			a = withFileOn(a, drive, name, "no frame")
		}
	}
	return a
}

// lost has one frame less of that name than there are to be; a file of it is there yet.
func lost(a impl.Array, name string) impl.Array {
	return withFileOn(hurtOn(a, name, 0, a.M+1), 0, name, "no frame")
}

func gone(a impl.Array, name string) impl.Array {
	for i := range a.Drives {
		a = withoutFileOn(a, i, name)
	}
	return a
}

func TestSnapRightByNames(t *testing.T) {
	root := letters(32)
	check := func(name string, want bool) {
		t.Helper()
		checkSnap(t, fmt.Sprintf("name %q", short(name)), impl.Snap{Name: name, Day: 5, Root: root}, want)
	}
	for size := range 82 {
		check(strings.Repeat("a", size), size >= 1 && size <= 20)
		check(strings.Repeat("t-", size)[:size], size >= 1 && size <= 20)
	}
	for _, name := range wrongNames() {
		check(name, false)
	}
	for _, name := range rightNames() {
		check(name, len(name) <= 20)
	}
	for b := range 256 {
		sign := string([]byte{byte(b)})
		letter := b >= 'a' && b <= 'z'
		within := letter || b >= '0' && b <= '9' || b == '-'
		check(sign, letter)
		check(sign+"a", letter)
		check("a"+sign, within)
		check("a"+sign+"a", within)
		check(strings.Repeat("a", 19)+sign, within)
	}
}

func TestSnapRightByDays(t *testing.T) {
	for _, day := range append(edges(1000000), 63, 64, 8191, 8192, 999999, 1<<32+5) {
		s := impl.Snap{Name: "one", Day: day, Root: letters(32)}
		checkSnap(t, fmt.Sprint("day ", day), s, day >= 0 && day <= 1000000)
	}
}

func TestSnapRightByRoots(t *testing.T) {
	for _, size := range []int{0, 1, 16, 30, 31, 32, 33, 34, 64, 320, impl.MaxBytes - 4, impl.MaxBytes, impl.MaxBytes + 1} {
		for _, name := range []string{"a", "one", strings.Repeat("a", 20)} {
			checkSnap(t, fmt.Sprint("a root of ", size), impl.Snap{Name: name, Root: letters(size)}, size == 32)
		}
	}
	for b := range 256 {
		root := strings.Repeat(string([]byte{byte(b)}), 32)
		checkSnap(t, "a root of one byte", impl.Snap{Name: "a", Day: int64(b), Root: root}, true)
	}
	checkSnap(t, "the zero one", impl.Snap{}, false)
	checkSnap(t, "all wrong", impl.Snap{Name: "A", Day: -1, Root: "x"}, false)
}

func TestSnapKnown(t *testing.T) {
	root := strings.Repeat("r", 32)
	same(t, "bytes", impl.SnapBytes(impl.Snap{Name: "one", Day: 5, Root: root}), "S\x06one\x0a"+root)
	same(t, "the most", impl.SnapBytes(impl.Snap{Name: strings.Repeat("z", 20), Day: 1000000, Root: root}), "S\x28"+strings.Repeat("z", 20)+"\x80\x89\x7a"+root)
	same(t, "read", impl.SnapRead("S\x02a\x00"+root), impl.SnapOut{Snap: impl.Snap{Name: "a", Root: root}})
	same(t, "not right", impl.SnapBytes(impl.Snap{Name: "A", Day: 5, Root: root}), "")
}

func drawnSnap(r *rand.Rand) impl.Snap {
	days := []int64{0, 63, 64, 8191, 8192, 999999, 1000000, r.Int63n(1000001)}
	name := drawnName(r)
	return impl.Snap{Name: name[:min(len(name), 20)], Day: days[r.Intn(len(days))], Root: drawnText(r, 32)}
}

func TestSnapsComeBack(t *testing.T) {
	r := rand.New(rand.NewSource(150))
	for range 500 {
		checkSnap(t, "drawn", drawnSnap(r), true)
	}
}

func TestSnapReadOfOtherBytes(t *testing.T) {
	r := rand.New(rand.NewSource(151))
	noSnap(t, "empty", "")
	noSnap(t, "the first byte alone", "S")
	for range 30 {
		s := drawnSnap(r)
		text := snapBytes(s)
		for at := range text {
			noSnap(t, "cut", text[:at])
			noSnap(t, "cut ahead", text[at+1:])
			// Of a day of several bytes the others may be another day's.
			if s.Day < 64 {
				noSnap(t, "a byte taken out", text[:at]+text[at+1:])
			}
		}
		for at := range len(text) + 1 {
			for b := range 256 {
				other := text[:at] + string([]byte{byte(b)}) + text[at:]
				if at == 2+len(s.Name) && b >= 128 {
					checkSnapRead(t, other)
				} else if at < 2+len(s.Name) || s.Day < 64 {
					noSnap(t, "a byte put in", other)
				}
			}
		}
		noSnap(t, "twice", text+text)
		noSnap(t, "much behind", text+letters(40))
		// Changed in the name, the day or the root it may be another Snap's.
		for _, other := range changedBytes(r, text) {
			checkSnapRead(t, other)
		}
		for b := range 256 {
			same(t, "first byte", impl.SnapRead(string([]byte{byte(b)})+text[1:]).Code == impl.OK, b == 83)
			checkSnapRead(t, string([]byte{byte(b)})+text[1:])
		}
	}
	for range 2000 {
		checkSnapRead(t, drawnText(r, r.Intn(60)))
		checkSnapRead(t, "S"+varint(r.Int63n(22)-1)+drawnName(r)+varint(r.Int63n(1000005)-2)+letters(30+r.Intn(5)))
	}
}

func TestSnapReadOfNumbers(t *testing.T) {
	root := letters(32)
	for _, s := range []impl.Snap{{Name: "a", Root: root}, {Name: "ab", Day: 63, Root: root}, {Name: "abc", Day: 64, Root: root}, {Name: "a", Day: 1000000, Root: root}} {
		told := []string{"S", varint(int64(len(s.Name))), s.Name, varint(s.Day), s.Root}
		same(t, "as it is to be", checkSnapRead(t, strings.Join(told, "")), impl.SnapOut{Snap: s})
		for at, n := range map[int]int64{1: int64(len(s.Name)), 3: s.Day} {
			for _, other := range []string{longNumber(n), longNumber(n)[:len(varint(n))] + "\x80\x00", varint(n) + "\x00", "", "\x80", "\xff",
				strings.Repeat("\x80", 10), strings.Repeat("\xff", 9) + "\x02", varint(-n - 1), varint(1000001), varint(math.MaxInt64), varint(math.MinInt64)} {
				l := slices.Clone(told)
				l[at] = other
				noSnap(t, fmt.Sprintf("number %d as %q", at, other), strings.Join(l, ""))
			}
		}
	}
	for _, size := range []int64{-1, 0, 1, 3, 21, 32, 34, 256 + 2, 1<<32 + 2, impl.MaxBytes, impl.MaxBytes + 1, math.MaxInt64} {
		noSnap(t, fmt.Sprint("a name of 2 bytes told to have ", size), "S"+varint(size)+"nn"+varint(5)+root)
	}
}

func TestSnapReadOfSizes(t *testing.T) {
	text := snapBytes(impl.Snap{Name: "one", Day: 5, Root: letters(32)})
	for _, size := range []int{100, impl.MaxBytes - 1, impl.MaxBytes, impl.MaxBytes + 1, impl.MaxBytes + 2, 2 * impl.MaxBytes} {
		want := impl.SnapOut{Code: impl.ErrSyntax}
		if size > impl.MaxBytes {
			want.Code = impl.ErrSize
		}
		for _, long := range []string{letters(size), text + letters(size-len(text)), strings.Repeat("S", size), strings.Repeat("\x00", size)} {
			same(t, fmt.Sprint(size, " bytes"), checkSnapRead(t, long), want)
			same(t, fmt.Sprint(size, " bytes"), impl.SnapRead(long), want)
		}
	}
}

func TestPackName(t *testing.T) {
	check := func(what string, text string, want string) {
		t.Helper()
		same(t, what+": as the test has it", wantPackName(text), want)
		m := &softMemory{}
		given := m.text(text)
		telling[string]{what, m,
			func() string { return impl.PackName(given) },
			func(what string) { same(t, what, given, text) },
			func(what string, got string) { same(t, what, got, want) },
			func(got string) []string { return []string{got} },
			func(string) {}}.twice(t)
	}
	check("empty", "", "p-e3b0c44298fc1c14")
	check("abc", "abc", "p-ba7816bf8f01cfea")
	for _, size := range []int{1, 63, 64, impl.MaxPack, impl.MaxPack + 1, impl.MaxBytes - 1, impl.MaxBytes} {
		text := letters(size)
		check(fmt.Sprint(size, " bytes"), text, "p-"+impl.Hex(sha(text))[:16])
	}
	for _, size := range []int{impl.MaxBytes + 1, impl.MaxBytes + 2, 2 * impl.MaxBytes} {
		check(fmt.Sprint(size, " bytes"), letters(size), "")
	}
	r := rand.New(rand.NewSource(152))
	for range 100 {
		text := recordsOf(drawnPack(r))
		check("a pack", text, wantPackName(text))
		same(t, "an object's name", impl.ObjectRight(impl.PackName(text)), true)
	}
}

// smallRepo is of 2 and 1, and has the snapshots one and two.
func smallRepo(t *testing.T) impl.Array {
	t.Helper()
	a := emptyArray(code{2, 1})
	a = doAll(t, a, savingOf("one", oneFiles()...).steps(a).Steps)
	return doAll(t, a, savingOf("two", twoFiles()...).steps(a).Steps)
}

func oneFiles() []impl.File {
	return []impl.File{{Path: "a", Text: numberedText(0, 3)}, {Path: "d/b", Text: numberedText(2, 2) + "end"}, {Path: "d/c"}}
}

func twoFiles() []impl.File {
	return []impl.File{{Path: "a", Text: numberedText(0, 3)}, {Path: "e", Text: numberedText(50, 4)}}
}

// packsIn are the names of an array's packs.
func packsIn(a impl.Array) []string {
	return slices.DeleteFunc(wantObjectNames(a), func(name string) bool { return !strings.HasPrefix(name, "p-") })
}

func TestRepoOfArraysThatAreNotRight(t *testing.T) {
	right := smallRepo(t)
	key := storeOf(right).places[0].Key
	for i, a := range brokenArrays(right) {
		what := fmt.Sprint("wrong array ", i)
		checkArrayRight(t, what, a, false)
		checkSnaps(t, what, a)
		sameList(t, what+": snaps", impl.Snaps(a), nil)
		checkRepoPlaces(t, what, a)
		same(t, what+": places", impl.RepoPlaces(a).Code, impl.ErrForm)
		sameList(t, what+": places", impl.RepoPlaces(a).Places, nil)
		for _, key := range []string{key, "", "none", letters(impl.MaxBytes)} {
			checkRepoBlob(t, what, a, key)
			same(t, what+": blob", impl.RepoBlob(a, key), impl.BlobOut{Code: impl.ErrForm})
		}
		same(t, what+": blob of a long key", checkRepoBlob(t, what, a, letters(impl.MaxBytes+1)), impl.BlobOut{Code: impl.ErrSize})
		for _, name := range []string{"one", "new", "A", ""} {
			backupTells(t, what, a, savingOf(name, oneFiles()...), impl.ErrForm)
			restoreTells(t, what, a, name, impl.ErrForm)
		}
		long := strings.Repeat("n", impl.MaxBytes+1)
		backupTells(t, what, a, savingOf(long), impl.ErrSize)
		restoreTells(t, what, a, long, impl.ErrSize)
	}
}

func TestSnapsOfObjects(t *testing.T) {
	a := emptyArray(code{2, 1})
	sameList(t, "none", checkSnaps(t, "none", a), nil)
	snap := func(name string, day int64) impl.Snap {
		return impl.Snap{Name: name, Day: day, Root: sha(name)}
	}
	var want []impl.Snap
	for i, name := range []string{"a", "a-", "a-b", "a0", "ab", "b", strings.Repeat("c", 19), strings.Repeat("c", 20), "t-0-a", "z"} {
		want = append(want, snap(name, int64(100-i)))
	}
	for _, at := range rand.New(rand.NewSource(153)).Perm(len(want)) {
		a = withSnap(a, want[at])
	}
	told := func(what string, a impl.Array, want []impl.Snap) {
		t.Helper()
		sameList(t, what+": as the test has it", checkSnaps(t, what, a), want)
		sameList(t, what, impl.Snaps(a), want)
	}
	told("in order", a, want)
	for i, s := range want {
		others := slices.Delete(slices.Clone(want), i, i+1)
		told("lost", lost(a, "s-"+s.Name), others)
		told("gone", gone(a, "s-"+s.Name), others)
		for drive := range a.Drives {
			told("hurt", hurtOn(a, "s-"+s.Name, drive, 1), want)
			told("hurt otherwise", withFileOn(a, drive, "s-"+s.Name, "no frame"), want)
		}
		for _, text := range []string{"", "S", "no Snap", snapBytes(s) + "x", snapBytes(s)[1:], letters(impl.MaxPack), snapBytes(snap("other", 5)), snapBytes(snap(s.Name+"x", 5)),
			snapBytes(impl.Snap{Name: s.Name, Day: -1, Root: s.Root}), snapBytes(impl.Snap{Name: s.Name, Day: 5, Root: s.Root + "x"}), snapBytes(snap("s-"+s.Name, 5))} {
			told("another text", withObject(a, "s-"+s.Name, text), others)
		}
		again := snap(s.Name, 77)
		changed := slices.Clone(want)
		changed[i] = again
		told("another Snap of that Name", withSnap(a, again), changed)
	}
}

func TestSnapsOfOtherNames(t *testing.T) {
	one := impl.Snap{Name: "one", Day: 5, Root: sha("one")}
	a := withSnap(emptyArray(code{3, 2}), one)
	for _, name := range []string{"s-", "s", "one", "sone", "s0-one", "ss-one", "p-one", "s--one", "s-one-", "s-on", "s-s-one", "t-s-one", "t-0-s-one"} {
		sameList(t, name, checkSnaps(t, name, withObject(a, name, snapBytes(one))), []impl.Snap{one})
		sameList(t, name, impl.Snaps(withObject(a, name, snapBytes(one))), []impl.Snap{one})
	}
	// No Snap may have such a Name.
	for _, name := range []string{"", "0", "-", "-one", "1one", strings.Repeat("n", 21), strings.Repeat("n", 58), "t-" + strings.Repeat("n", 19)} {
		b := withObject(a, "s-"+name, snapBytes(impl.Snap{Name: name, Day: 5, Root: sha("one")}))
		sameList(t, name, checkSnaps(t, name, b), []impl.Snap{one})
		sameList(t, name, impl.Snaps(b), []impl.Snap{one})
		cut := name[:min(len(name), 20)]
		b = withObject(a, "s-"+name, snapBytes(impl.Snap{Name: cut, Day: 5, Root: sha("one")}))
		sameList(t, name+", cut", checkSnaps(t, name, b), []impl.Snap{one})
	}
	sameList(t, "files of tags", checkSnaps(t, "files of tags", everywhere(a, "t-0-s-two", "x")), []impl.Snap{one})
}

func TestRepoPlacesOfPacks(t *testing.T) {
	r := rand.New(rand.NewSource(154))
	for _, c := range []code{{1, 0}, {1, 2}, {2, 1}, {3, 2}} {
		a := emptyArray(c)
		told := func(what string, a impl.Array, want int) {
			t.Helper()
			same(t, what+": as the test has it", len(checkRepoPlaces(t, what, a).Places), want)
			got := impl.RepoPlaces(a)
			same(t, what+": code", got.Code, impl.OK)
			same(t, what, len(got.Places), want)
		}
		told("no packs", a, 0)
		a = withSnap(a, impl.Snap{Name: "one", Root: sha("one")})
		told("no packs, but a snapshot", a, 0)
		first, second := someBlobs(30), someBlobs(60)[30:]
		a = withPack(withPack(a, first...), second...)
		told("two packs", a, 60)
		r.Shuffle(30, func(i, j int) { first[i], first[j] = first[j], first[i] })
		told("some blobs again, in another order", withPack(a, first[:20]...), 80)
		told("a pack again, by another name", withObject(a, "p-x", recordsOf(first)), 90)
		told("a pack again, by the shortest name", withObject(a, "p-", recordsOf(first)), 90)
		told("a pack again, by the longest name", withObject(a, "p-"+strings.Repeat("p", 58), recordsOf(first)), 90)
		for _, name := range []string{"p", "px", "p0-x", "pp-x", "q-x", "s-p-x", "sp-x", "t-0-p-x"} {
			told("a pack by no pack's name", withObject(a, name, recordsOf(someBlobs(70)[60:])), 60)
		}
		for _, name := range packsIn(a) {
			told("one lost", lost(a, name), 30)
			told("one gone", gone(a, name), 30)
			for drive := range a.Drives {
				told("hurt as many as there is parity", hurtOn(a, name, drive, c.m), 60)
				told("hurt one more", hurtOn(a, name, drive, c.m+1), 30)
			}
			told("no pack's bytes", withObject(a, name, "no pack"), 30)
			told("no bytes", withObject(a, name, ""), 30)
			told("some records", withObject(a, name, "x"+recordsOf(someBlobs(9))+"B"), 39)
			told("another pack's bytes", withObject(a, name, recordsOf(someBlobs(39))), 69)
			told("one blob twice", withObject(a, name, recordsOf(slices.Concat(someBlobs(2), someBlobs(3)))), 33)
		}
		told("both lost", lost(lost(a, packsIn(a)[0]), packsIn(a)[1]), 0)
	}
}

// numberedBlobs are so many of few bytes, which no call of it with another first number has.
func numberedBlobs(first int, count int) []impl.Blob {
	var l []impl.Blob
	for i := range count {
		l = append(l, impl.Blob{Kind: 1 + int64(i%2), Text: fmt.Sprint(first + i)})
	}
	return l
}

// manyPacks has so many, of 40 blobs each.
func manyPacks(a impl.Array, count int) impl.Array {
	for i := range count {
		a = withPack(a, numberedBlobs(1000+40*i, 40)...)
	}
	return a
}

func TestRepoPlacesHoweverMany(t *testing.T) {
	for _, count := range []int{7, 8, 10, 11, 30} {
		a := manyPacks(emptyArray(code{1, 0}), count)
		same(t, "as the test has it", len(checkRepoPlaces(t, "many", a).Places), 40*count)
		same(t, fmt.Sprint(count, " packs"), len(impl.RepoPlaces(a).Places), 40*count)
	}
	// The same blobs in each of more packs than places may be told of one key.
	a := emptyArray(code{1, 0})
	for i := range 20 {
		a = withObject(a, fmt.Sprintf("p-%02d", i), recordsOf(someBlobs(21)))
	}
	places := checkRepoPlaces(t, "one key in many packs", a).Places
	same(t, "places", len(places), 420)
	for i, p := range impl.RepoPlaces(a).Places {
		same(t, "pack", p.Pack, fmt.Sprintf("p-%02d", i%20))
		same(t, "rising", i == 0 || spotOf(places[i-1]) < spotOf(p), true)
	}
	// Of one text no more places are told than PlacesOf tells.
	full := withObject(emptyArray(code{2, 1}), "p-full", recordsOf(emptiest()[:330]))
	same(t, "of one text", len(checkRepoPlaces(t, "of one text", full).Places), 300)
	same(t, "of one text", len(impl.RepoPlaces(full).Places), 300)
	for _, b := range emptiest()[:330] {
		checkRepoBlob(t, "of one text", full, wantKey(b))
	}
}

func TestRepoBlobByKeys(t *testing.T) {
	a := withPack(withPack(emptyArray(code{2, 1}), someBlobs(10)...), someBlobs(20)[10:]...)
	for _, b := range someBlobs(20) {
		same(t, "as the test has it", checkRepoBlob(t, "there", a, wantKey(b)), impl.BlobOut{Blob: b})
		same(t, "there", impl.RepoBlob(a, wantKey(b)), impl.BlobOut{Blob: b})
	}
	key, none := wantKey(someBlobs(1)[0]), impl.BlobOut{Code: impl.ErrNone}
	for _, other := range []string{"", "x", key[:31], key[1:], key + "x", key + key, "x" + key, keyOf(1), strings.Repeat("\x00", 32), strings.Repeat("\xff", 32),
		wantKey(someBlobs(21)[20]), letters(impl.MaxBytes)} {
		same(t, "as the test has it", checkRepoBlob(t, "no such key", a, other), none)
		same(t, "no such key", impl.RepoBlob(a, other), none)
		same(t, "no such key in no packs", checkRepoBlob(t, "no packs", emptyArray(code{1, 0}), other), none)
	}
	for _, size := range []int{impl.MaxBytes + 1, impl.MaxBytes + 2, 2 * impl.MaxBytes} {
		same(t, "a long key", checkRepoBlob(t, "a long key", a, letters(size)), impl.BlobOut{Code: impl.ErrSize})
		same(t, "a long key", impl.RepoBlob(a, letters(size)), impl.BlobOut{Code: impl.ErrSize})
	}
}

func TestRepoBlobOfPacks(t *testing.T) {
	blobs := someBlobs(12)
	a := emptyArray(code{2, 2})
	names := []string{"p-", "p-a", "p-a-", "p-b"}
	for _, name := range names {
		a = withObject(a, name, "ahead"+recordsOf(blobs))
	}
	for set := range 1 << len(names) {
		b := a
		for i, name := range names {
			if set>>i&1 == 1 && (set+i)%2 == 0 {
				b = lost(b, name)
			} else if set>>i&1 == 1 {
				b = withObject(b, name, "no pack")
			} else {
				b = hurtOn(b, name, i, 2)
			}
		}
		want := impl.BlobOut{Blob: blobs[set%12]}
		if set == 1<<len(names)-1 {
			want = impl.BlobOut{Code: impl.ErrNone}
		}
		same(t, "as the test has it", checkRepoBlob(t, fmt.Sprintf("%b", set), b, wantKey(blobs[set%12])), want)
		same(t, fmt.Sprintf("some lost, %b", set), impl.RepoBlob(b, wantKey(blobs[set%12])), want)
	}
}

func TestRepoBlobTellsTheFirstFault(t *testing.T) {
	type blobIn struct {
		a   impl.Array
		key string
	}
	blobs := someBlobs(3)
	right := func() blobIn {
		return blobIn{withPack(emptyArray(code{2, 1}), blobs...), wantKey(blobs[1])}
	}
	firstFault(right, []fault[blobIn]{
		{impl.ErrSize, func(in *blobIn) { in.key = letters(impl.MaxBytes + 1) }},
		{impl.ErrForm, func(in *blobIn) { in.a.Drives[2].Room = -1 }},
		{impl.ErrNone, func(in *blobIn) { in.key = "none" }},
	}, func(in blobIn, code int64) {
		same(t, "as the test has it", checkRepoBlob(t, "faults", in.a, in.key).Code, code)
		same(t, "the first fault", impl.RepoBlob(in.a, in.key).Code, code)
	})
}

func TestBackupStepsKnown(t *testing.T) {
	a := emptyArray(code{2, 1})
	x, y := dataBlob("x"), dataBlob("y")
	root := treeBlob(fullNode("a", x), fullNode("b", y))
	s := saving{tag: 3, c: someCutting(), name: "one", day: 5, files: []impl.File{{Path: "a", Text: "x"}, {Path: "b", Text: "y"}}}
	pack := recordOf(x) + recordOf(y) + recordOf(root)
	snap := "S\x06one\x0a" + wantKey(root)
	got := backupTells(t, "known", a, s, impl.OK)
	same(t, "added", got.Added, 3)
	sameList(t, "steps", got.Steps, slices.Concat(impl.PutSteps(a, 3, impl.PackName(pack), pack), impl.PutSteps(a, 3, "s-one", snap)))
	same(t, "how many", len(got.Steps), 18)
	same(t, "the first one", got.Steps[0].Op.Name, "t-3-"+impl.PackName(pack))
	same(t, "the last one", got.Steps[17], impl.Step{Drive: 2, Op: impl.Op{Kind: impl.OpRename, Name: "t-3-s-one", To: "s-one"}})
	b := doAll(t, a, got.Steps)
	sameList(t, "objects", impl.ObjectNames(b), []string{impl.PackName(pack), "s-one"})
	sameList(t, "snaps", impl.Snaps(b), []impl.Snap{{Name: "one", Day: 5, Root: wantKey(root)}})
	restores(t, "known", b, "one", s.files)
	none := impl.StepsOut{Added: 1}
	none.Steps = slices.Concat(impl.PutSteps(a, 0, impl.PackName(recordOf(treeBlob())), recordOf(treeBlob())),
		impl.PutSteps(a, 0, "s-two", "S\x06two\x0e"+wantKey(treeBlob())))
	sameList(t, "no files", backupTells(t, "no files", a, savingOf("two"), impl.OK).Steps, none.Steps)
}

func TestBackupStepsByNames(t *testing.T) {
	a := smallRepo(t)
	check := func(name string, want bool) {
		t.Helper()
		code := int64(impl.OK)
		if len(name) > impl.MaxBytes {
			code = impl.ErrSize
		} else if !want {
			code = impl.ErrForm
		}
		what := fmt.Sprintf("name %q", short(name))
		got := backupTells(t, what, a, savingOf(name, oneFiles()...), code)
		if want {
			restores(t, what, doAll(t, a, got.Steps), name, oneFiles())
			restoreTells(t, what, a, name, impl.ErrNone)
			return
		}
		restoreTells(t, what, a, name, code)
		if impl.ObjectRight("s-" + name) {
			restoreTells(t, what+", with its object", withObject(a, "s-"+name, snapBytes(impl.Snap{Name: name, Root: letters(32)})), name, code)
			backupTells(t, what+", with its object", withObject(a, "s-"+name, "x"), savingOf(name), code)
		}
	}
	for _, size := range []int{0, 1, 2, 19, 20, 21, 22, 58, 59, 80, 81} {
		check(strings.Repeat("a", size), size >= 1 && size <= 20)
	}
	for _, name := range wrongNames() {
		check(name, false)
	}
	for b := range 256 {
		sign := string([]byte{byte(b)})
		check(sign, b >= 'a' && b <= 'z')
	}
	for _, name := range []string{"a-", "t-0-a", "s-one", "p-x", "-a", "1", "a_b", "A", "a\n"} {
		check(name, snapPattern.MatchString(name) && !strings.HasSuffix(name, "\n"))
	}
	for _, size := range []int{impl.MaxBytes - 1, impl.MaxBytes, impl.MaxBytes + 1, impl.MaxBytes + 2, 2 * impl.MaxBytes} {
		check(strings.Repeat("a", size), false)
	}
}

func TestBackupStepsByTagsAndDays(t *testing.T) {
	a := smallRepo(t)
	for _, tag := range append(edges(9), 2, 5, 256, 257, 1<<32+5) {
		s, code := savingOf("new", oneFiles()...), int64(impl.ErrForm)
		s.tag = tag
		if tag >= 0 && tag <= 9 {
			code = impl.OK
		}
		for _, step := range backupTells(t, fmt.Sprint("tag ", tag), a, s, code).Steps {
			same(t, "tag's file", strings.HasPrefix(step.Op.Name, fmt.Sprintf("t-%d-", tag)), true)
		}
	}
	for _, day := range append(edges(1000000), 63, 64, 999, 1<<32+5) {
		s, code := savingOf("new", oneFiles()...), int64(impl.ErrForm)
		s.day = day
		if day >= 0 && day <= 1000000 {
			code = impl.OK
		}
		out := backupTells(t, fmt.Sprint("day ", day), a, s, code)
		if code == impl.OK {
			same(t, "day", impl.Snaps(doAll(t, a, out.Steps))[0].Day, day)
		}
	}
}

func TestBackupStepsOfWhatIsThere(t *testing.T) {
	a := smallRepo(t)
	for _, name := range []string{"one", "two"} {
		for _, l := range [][]impl.File{oneFiles(), twoFiles(), nil} {
			backupTells(t, "there", a, savingOf(name, l...), impl.ErrThere)
		}
		object := "s-" + name
		for _, text := range []string{"", "no Snap", snapBytes(impl.Snap{Name: "other", Root: letters(32)}), letters(impl.MaxPack)} {
			backupTells(t, "there, but no Snap", withObject(a, object, text), savingOf(name, oneFiles()...), impl.ErrThere)
		}
		for drive := range a.Drives {
			backupTells(t, "hurt", hurtOn(a, object, drive, 1), savingOf(name, oneFiles()...), impl.ErrThere)
		}
		for i, b := range []impl.Array{lost(a, object), gone(a, object), hurtOn(a, object, 1, 2)} {
			what := fmt.Sprint("not there ", i)
			out := backupTells(t, what, b, savingOf(name, oneFiles()...), impl.OK)
			same(t, what+": nothing else to add", out.Added, 0)
			restores(t, what, doAll(t, b, out.Steps), name, oneFiles())
		}
	}
	// Objects of other names are in nobody's way.
	for _, name := range []string{"one", "p-one", "s", "s-", "s-on", "s-onee", "s-s-one", "sone", "s-one-"} {
		b := withObject(emptyArray(code{2, 1}), name, "there")
		same(t, name, len(backupTells(t, name, b, savingOf("one"), impl.OK).Steps), 18)
	}
	b := everywhere(emptyArray(code{2, 1}), "t-1-s-one", "there")
	same(t, "another tag's file", len(backupTells(t, "a tag's file", b, savingOf("one"), impl.OK).Steps), 18)
}

func TestBackupStepsOfTrees(t *testing.T) {
	a := smallRepo(t)
	for _, c := range wrongCuttings() {
		s := savingOf("new", oneFiles()...)
		s.c = c
		backupTells(t, "a wrong cutting", a, s, impl.ErrForm)
		s.name = "one"
		backupTells(t, "a wrong cutting, there", a, s, impl.ErrThere)
	}
	for _, l := range [][]impl.File{{{}}, filesOf("b", "a"), filesOf("a", "a"), filesOf("a", "a/b"), filesOf("a/b/c/d/e/f"), {{Path: "a", Text: letters(1501)}},
		numberedFiles(21), numberedFiles(400)} {
		backupTells(t, "wrong files", a, savingOf("new", l...), impl.ErrForm)
		backupTells(t, "wrong files, there", a, savingOf("one", l...), impl.ErrThere)
	}
	backupTells(t, "nodes that are too much", a, savingOf("new", wideFiles(1, 63)...), impl.ErrRange)
	backupTells(t, "too many blobs", a, savingOf("new", wideFiles(49, 49, 49, 49, 49, 49, 49, 49)...), impl.ErrFull)
	backupTells(t, "both", a, savingOf("new", wideFiles(slices.Repeat([]int{63}, 20)...)...), impl.ErrRange)
	for _, count := range []int{399, 400, 401, 402, 800} {
		code := int64(impl.ErrForm)
		if count > 400 {
			code = impl.ErrSize
		}
		backupTells(t, fmt.Sprint(count, " files"), a, savingOf("new", numberedFiles(count)...), code)
		backupTells(t, fmt.Sprint(count, " files, no name"), a, savingOf("", numberedFiles(count)...), code)
	}
}

func TestBackupStepsTellTheFirstFault(t *testing.T) {
	type backupIn struct {
		a impl.Array
		s saving
	}
	right := func() backupIn {
		return backupIn{emptyArray(code{8, 6}), savingOf("one", wideFiles(1, 2)...)}
	}
	firstFault(right, []fault[backupIn]{
		{impl.ErrSize, func(in *backupIn) { in.s.name = strings.Repeat("n", impl.MaxBytes+1) }},
		{impl.ErrSize, func(in *backupIn) {
			for len(in.s.files) <= impl.MaxList {
				in.s.files = append(in.s.files, in.s.files[0])
			}
		}},
		{impl.ErrForm, func(in *backupIn) { in.a.Drives[13].Room = -1 }},
		{impl.ErrForm, func(in *backupIn) { in.s.tag = 10 }},
		{impl.ErrForm, func(in *backupIn) { in.s.day = -1 }},
		{impl.ErrForm, func(in *backupIn) { in.s.name = "1" }},
		{impl.ErrThere, func(in *backupIn) { in.a = withObject(in.a, "s-one", "there") }},
		{impl.ErrForm, func(in *backupIn) { in.s.c.Min = 15 }},
		{impl.ErrForm, func(in *backupIn) { in.s.files[0].Path = "A" }},
		{impl.ErrRange, func(in *backupIn) { in.s.files[1].Text = numberedText(9000, 63) }},
		{impl.ErrFull, func(in *backupIn) { in.s.files = wideFiles(39, 39, 39, 39, 39, 39, 39, 39) }},
	}, func(in backupIn, code int64) {
		same(t, "as the test has it", checkBackup(t, "faults", in.a, in.s).Code, code)
		same(t, "the first fault", in.s.steps(in.a).Code, code)
	})
}

// packsPut are the blobs of the packs that steps put, in the steps' order, and the name of the last object.
func packsPut(t *testing.T, a impl.Array, l []impl.Step) ([][]impl.Blob, string) {
	t.Helper()
	var names []string
	for _, step := range l {
		if step.Op.Kind == impl.OpRename && !slices.Contains(names, step.Op.To) {
			names = append(names, step.Op.To)
		}
	}
	b, packs := doAll(t, a, l), [][]impl.Blob{}
	for _, name := range names[:len(names)-1] {
		text := impl.ObjectGet(b, name).Text
		same(t, "the pack's name", name, wantPackName(text))
		read := impl.PackRead(text)
		same(t, "a right pack", read.Code, impl.OK)
		packs = append(packs, read.Blobs)
	}
	return packs, names[len(names)-1]
}

// putsPacks asks for just so many blobs in each pack, which one behind the other are the given ones.
func putsPacks(t *testing.T, what string, a impl.Array, s saving, l []impl.Blob, counts ...int) {
	t.Helper()
	out := backupTells(t, what, a, s, impl.OK)
	packs, last := packsPut(t, a, out.Steps)
	var got []int
	for _, pack := range packs {
		got = append(got, len(pack))
	}
	sameList(t, what+": blobs in packs", got, counts)
	sameList(t, what+": blobs", slices.Concat(packs...), l)
	same(t, what+": added", out.Added, int64(len(l)))
	same(t, what+": the snapshot", last, "s-"+s.name)
	restores(t, what, doAll(t, a, out.Steps), s.name, s.files)
}

func TestBackupStepsFillPacksByCounts(t *testing.T) {
	a := emptyArray(code{2, 1})
	for pieces, counts := range map[int][]int{0: {1}, 1: {2}, 38: {39}, 39: {40}, 40: {40, 1}, 41: {40, 2}} {
		s := savingOf("new", impl.File{Path: "f", Text: numberedText(0, pieces)})
		putsPacks(t, fmt.Sprint(pieces, " pieces"), a, s, wantTree(s.c, s.files).Blobs, counts...)
	}
	for _, pieces := range [][]int{{37, 40}, {37, 41}, {38, 40}, {20, 20, 20, 20}, {39, 39, 39}} {
		s := savingOf("new", wideFiles(pieces...)...)
		blobs := wantTree(s.c, s.files).Blobs
		var counts []int
		for left := len(blobs); left > 0; left -= 40 {
			counts = append(counts, min(left, 40))
		}
		putsPacks(t, fmt.Sprint("pieces ", pieces), a, s, blobs, counts...)
	}
}

// sizedFiles have one piece each, of so many bytes.
func sizedFiles(sizes ...int) saving {
	s := savingOf("new")
	s.c = impl.Cutting{Min: 1000, Bits: 12, Max: 2000}
	for i, size := range sizes {
		text := fmt.Sprintf("%03d%s", i, letters(size))
		s.files = append(s.files, impl.File{Path: fmt.Sprintf("f%02d", i), Text: text[:size]})
	}
	return s
}

func TestBackupStepsFillPacksByBytes(t *testing.T) {
	a := emptyArray(code{2, 1})
	sizes := append(slices.Repeat([]int{900}, 12), 500)
	full := func(s saving) int { return len(recordsOf(wantTree(s.c, s.files).Blobs)) }
	sizes[12] += impl.MaxPack - full(sizedFiles(sizes...))
	same(t, "just full", full(sizedFiles(sizes...)), 12000)
	for more, counts := range map[int][]int{-2: {14}, -1: {14}, 0: {14}, 1: {13, 1}, 2: {13, 1}} {
		sizes := slices.Clone(sizes)
		sizes[12] += more
		s := sizedFiles(sizes...)
		putsPacks(t, fmt.Sprint(12000+more, " bytes"), a, s, wantTree(s.c, s.files).Blobs, counts...)
	}
	// What would fit into a pack that is left behind goes into the one at hand.
	long := slices.Repeat([]int{900}, 12)
	s := sizedFiles(append(long, 990, 5, 990, 6)...)
	putsPacks(t, "a short one behind", a, s, wantTree(s.c, s.files).Blobs, 12, 5)
	s = sizedFiles(slices.Repeat([]int{990}, 20)...)
	putsPacks(t, "20 long ones", a, s, wantTree(s.c, s.files).Blobs, 11, 10)
	// The longest blobs there may be: nodes of 2000 bytes.
	nodes := savingOf("new")
	size := len(nodesBytes([]impl.Node{{Name: "n", Size: 976, Keys: keysOf(61)}}))
	for i := range 7 {
		path := fmt.Sprint("d", i, "/") + strings.Repeat("n", 1+2000-size)
		nodes.files = append(nodes.files, impl.File{Path: path, Text: strings.Repeat(numberedText(i, 1), 61)})
	}
	tree := wantTree(nodes.c, nodes.files)
	same(t, "long nodes", len(tree.Blobs[1].Text), 2000)
	putsPacks(t, "long nodes", a, nodes, tree.Blobs, 11, 4)
}

func TestBackupStepsLeaveOutWhatIsThere(t *testing.T) {
	a := emptyArray(code{2, 1})
	s := savingOf("new", oneFiles()...)
	blobs := wantTree(s.c, s.files).Blobs
	same(t, "enough of them", len(blobs), 7)
	for set := range 1 << len(blobs) {
		var there, left []impl.Blob
		for i, b := range blobs {
			if set>>i&1 == 1 {
				there = append(there, b)
			} else {
				left = append(left, b)
			}
		}
		b := withPack(a, append([]impl.Blob{dataBlob("another one")}, there...)...)
		counts := []int{len(left)}
		if len(left) == 0 {
			counts = nil
		}
		putsPacks(t, fmt.Sprintf("some there, %b", set), b, s, left, counts...)
		if set%16 == 0 {
			lostOnes := lost(b, packsIn(b)[0])
			putsPacks(t, "lost", lostOnes, s, blobs, 7)
			putsPacks(t, "hurt", hurtOn(b, packsIn(b)[0], set%3, 1), s, left, counts...)
			putsPacks(t, "with a text of the other kind", withPack(b, impl.Blob{Kind: 3 - blobs[0].Kind, Text: blobs[0].Text}), s, left, counts...)
			putsPacks(t, "no pack's name", withObject(a, "q-x", recordsOf(blobs)), s, blobs, 7)
			putsPacks(t, "another pack's name", withObject(a, "p-x", "x"+recordsOf(blobs)), s, nil)
		}
	}
	// Nothing is to be added: the steps of the snapshot alone.
	b := withPack(a, blobs...)
	out := backupTells(t, "all there", b, s, impl.OK)
	same(t, "added", out.Added, 0)
	sameList(t, "steps", out.Steps, impl.PutSteps(b, 0, "s-new", snapBytes(impl.Snap{Name: "new", Day: 7, Root: wantKey(blobs[6])})))
	// A pack that is lost is put once more under its name.
	b = doAll(t, a, s.steps(a).Steps)
	s.name = "again"
	b = lost(b, packsIn(b)[0])
	again := doAll(t, b, backupTells(t, "lost", b, s, impl.OK).Steps)
	restores(t, "again", again, "again", s.files)
	restores(t, "new", again, "new", s.files)
	same(t, "one pack", len(packsIn(again)), 1)
}

func TestBackupStepsAreAllThereMayBe(t *testing.T) {
	// 14 drives and 9 objects, and 12 drives and 11 objects, are 378 and 396 steps: files of the tag make them more.
	for _, x := range []struct {
		c      code
		pieces []int
		left   int
	}{
		{code{8, 6}, []int{39, 39, 39, 39, 39, 39, 39, 38}, 22}, {code{6, 6}, []int{48, 48, 48, 49, 49, 49, 49, 49}, 4},
	} {
		a, s := emptyArray(x.c), savingOf("new", wideFiles(x.pieces...)...)
		s.tag = 4
		steps := backupTells(t, "few enough", a, s, impl.OK).Steps
		same(t, "steps", len(steps), 400-x.left)
		var files []impl.Step
		for _, step := range steps {
			if step.Op.Kind == impl.OpWrite {
				files = append(files, step)
			}
		}
		// First the snapshot's, which come last.
		slices.Reverse(files)
		for i, step := range files[:x.left+2] {
			a = withFileOn(withFileOn(a, int(step.Drive), step.Op.Name, "left"), int(step.Drive), "t-5"+step.Op.Name[3:], "left")
			code := int64(impl.OK)
			if i+1 > x.left {
				code = impl.ErrFull
			}
			got := backupTells(t, fmt.Sprint(i+1, " files of the tag"), a, s, code)
			if code == impl.OK {
				same(t, "steps", len(got.Steps), 400-x.left+i+1)
			}
			if i+1 == x.left {
				restores(t, "as many as may be", doAll(t, a, got.Steps), "new", s.files)
			}
		}
	}
	s := savingOf("new", wideFiles(39, 39, 39, 39, 39, 39, 39, 39)...)
	backupTells(t, "one blob more than 8 packs have", emptyArray(code{8, 6}), s, impl.ErrFull)
	for _, c := range []code{{8, 5}, {7, 6}, {8, 0}, {1, 0}} {
		backupTells(t, "fewer drives", emptyArray(c), s, impl.OK)
	}
}

func TestBackupStepsOnDrivesWithATagsFiles(t *testing.T) {
	s := savingOf("new", oneFiles()...)
	empty := emptyArray(code{2, 1})
	pack := packsIn(doAll(t, empty, s.steps(empty).Steps))[0]
	for set := range 1 << 6 {
		a, more := empty, 0
		for i := range 6 {
			if set>>i&1 == 1 {
				a = withFileOn(a, i%3, "t-0-"+[]string{pack, "s-new"}[i/3], letters(i))
				more++
			}
		}
		out := backupTells(t, fmt.Sprintf("files of the tag, %b", set), a, s, impl.OK)
		same(t, "steps", len(out.Steps), 18+more)
		b := doAll(t, a, out.Steps)
		restores(t, "behind them", b, "new", s.files)
		sameList(t, "objects", impl.ObjectNames(b), []string{pack, "s-new"})
		for _, d := range b.Drives {
			same(t, "files", len(d.Files), 2)
		}
		s.tag = 1
		same(t, "another tag's steps", len(backupTells(t, "another tag", a, s, impl.OK).Steps), 18)
		s.tag = 0
	}
}

func TestBackupStepsOnFullDrives(t *testing.T) {
	s := savingOf("new", oneFiles()...)
	for at := range 3 {
		full, tight := smallRepo(t), smallRepo(t)
		files := byName(full.Drives[at])
		for i := range impl.MaxFiles - len(files) {
			files[fmt.Sprintf("f%02d", i)] = impl.Stored{}
		}
		full.Drives[at] = inOrder(files, impl.MaxRoom)
		tight.Drives[at].Room = 0
		for _, f := range tight.Drives[at].Files {
			tight.Drives[at].Room += int64(len(f.Text))
		}
		for i, a := range []impl.Array{full, tight} {
			what := fmt.Sprint("full ", i, " at ", at)
			same(t, what, impl.ArrayRight(a), true)
			out := backupTells(t, what, a, s, impl.OK)
			done := impl.StepsDo(a, out.Steps, int64(len(out.Steps)))
			same(t, what+": code", done.Code, impl.ErrFull)
			same(t, what+": done", done.Done, int64(2*at))
			restoreTells(t, what, done.Array, "new", impl.ErrNone)
			restores(t, what, done.Array, "one", oneFiles())
			restores(t, what, done.Array, "two", twoFiles())
		}
	}
}

func TestRestoreTellsTheFirstFault(t *testing.T) {
	type restoreIn struct {
		a    impl.Array
		name string
	}
	repo := smallRepo(t)
	right := func() restoreIn { return restoreIn{copiedArray(repo), "one"} }
	firstFault(right, []fault[restoreIn]{
		{impl.ErrSize, func(in *restoreIn) { in.name = strings.Repeat("n", impl.MaxBytes+1) }},
		{impl.ErrForm, func(in *restoreIn) { in.a.Drives[2].Room = -1 }},
		{impl.ErrForm, func(in *restoreIn) { in.name = "1" }},
		{impl.ErrNone, func(in *restoreIn) { in.a = gone(in.a, "s-one") }},
		{impl.ErrLost, func(in *restoreIn) { in.a = lost(in.a, "s-one") }},
		{impl.ErrSyntax, func(in *restoreIn) { in.a = withObject(in.a, "s-one", "no Snap") }},
		{impl.ErrNone, func(in *restoreIn) {
			for _, name := range packsIn(in.a) {
				in.a = lost(in.a, name)
			}
		}},
	}, func(in restoreIn, code int64) {
		restoreTells(t, "faults", in.a, in.name, code)
	})
}

func TestRestoreOfSnapshots(t *testing.T) {
	a := smallRepo(t)
	restores(t, "as it is", a, "one", oneFiles())
	restores(t, "as it is", a, "two", twoFiles())
	for _, name := range []string{"on", "onee", "s-one", "three", "p", "t-one", strings.Repeat("o", 20)} {
		restoreTells(t, "no such snapshot", a, name, impl.ErrNone)
		b := withFileOn(a, 1, "s-"+name, "no frame")
		restoreTells(t, "a file of that name", b, name, impl.ErrLost)
		restoreTells(t, "another Name", withObject(a, "s-"+name, impl.ObjectGet(a, "s-one").Text), name, impl.ErrSyntax)
	}
	restoreTells(t, "empty drives", emptyArray(code{8, 6}), "one", impl.ErrNone)
	for drive := range a.Drives {
		restores(t, "hurt", hurtOn(a, "s-one", drive, 1), "one", oneFiles())
		restoreTells(t, "hurt too much", hurtOn(a, "s-one", drive, 2), "one", impl.ErrLost)
	}
	root := wantTree(sixteens(), twoFiles()).Root
	for _, text := range []string{"", "S", "no Snap", "S\x06one\x0a" + root + "x", "S\x06one\x0a" + root[1:], "s\x06one\x0a" + root, "S\x06two\x0a" + root,
		"S\x08onee\x0a" + root, "S\x06one\x09" + root, "S\x06One\x0a" + root, root, letters(impl.MaxPack)} {
		restoreTells(t, "no Snap, or another one", withObject(a, "s-one", text), "one", impl.ErrSyntax)
	}
	b := withObject(a, "s-one", "S\x06one\x0a"+root)
	restoreTells(t, "another Root", b, "one", impl.OK)
	restores(t, "another Root", b, "one", twoFiles())
}

// withRoot has these nodes as the root of the snapshot one, and blobs beside them, those that are right.
func withRoot(l []impl.Blob, nodes ...impl.Node) impl.Array {
	root := treeBlob(nodes...)
	a := withSnap(emptyArray(code{2, 1}), impl.Snap{Name: "one", Root: wantKey(root)})
	var right []impl.Blob
	for _, b := range append(slices.Clone(l), root) {
		if wantPackRight([]impl.Blob{b}) && !slices.Contains(right, b) {
			right = append(right, b)
		}
	}
	for _, pack := range wantFilled(right) {
		a = withPack(a, pack...)
	}
	return a
}

func TestRestoreOfTreesWithAFlaw(t *testing.T) {
	for _, f := range flaws() {
		restoreTells(t, f.what, withRoot(flawedBlobs(), f.node), "one", f.code)
		restoreTells(t, f.what+", behind", withRoot(flawedBlobs(), fullNode("m", dataBlob("word")), f.node), "one", f.code)
	}
	for _, f := range []flaw{flaws()[0], flaws()[2], flaws()[17], flaws()[len(flaws())-1]} {
		for _, g := range flaws() {
			restoreTells(t, f.what+" ahead of "+g.what, withRoot(flawedBlobs(), named("a", f.node), named("b", g.node)), "one", f.code)
		}
	}
	for _, n := range soundNodes() {
		restoreTells(t, "sound", withRoot(flawedBlobs(), n), "one", impl.OK)
	}
	restoreTells(t, "no nodes", withRoot(nil), "one", impl.OK)
	a := withRoot(flawedBlobs())
	for what, x := range map[string]struct {
		root impl.Blob
		code int64
	}{
		"a root that is not there": {dataBlob("none"), impl.ErrNone}, "a root that is data": {dataBlob("word"), impl.ErrSyntax},
		"a root that is no nodes": {impl.Blob{Kind: 2, Text: "word"}, impl.ErrSyntax}, "a root in which there is nothing": {treeBlob(), impl.OK},
	} {
		restoreTells(t, what, withSnap(a, impl.Snap{Name: "one", Root: wantKey(x.root)}), "one", x.code)
	}
}

func TestRestoreOfTreesThatAreTooMuch(t *testing.T) {
	empty := treeBlob()
	for count, code := range map[int]int64{9: impl.OK, 10: impl.OK, 11: impl.ErrRange} {
		var half []impl.Node
		for i := range count {
			half = append(half, fullNode(fmt.Sprint("f", 10+i)))
		}
		b := treeBlob(half...)
		restoreTells(t, fmt.Sprint(2*count, " files"), withRoot([]impl.Blob{b}, dirNode("a", b), dirNode("b", b)), "one", code)
	}
	for count, code := range map[int]int64{8: impl.OK, 9: impl.OK, 10: impl.ErrRange, 20: impl.ErrRange} {
		b := treeBlob(manyNodes(20, dirNode("n", empty))...)
		nodes := append(manyNodes(count, dirNode("n", b)), fullNode("z"), fullNode("z0"))
		same(t, "met", 21*count+2 <= 200, code == impl.OK)
		restoreTells(t, fmt.Sprint(count, " directories of 20"), withRoot([]impl.Blob{b, empty}, nodes[:min(len(nodes), 20)]...), "one", code)
	}
	for deep, code := range map[int]int64{4: impl.OK, 5: impl.OK, 6: impl.ErrRange} {
		l := chain(deep)
		restoreTells(t, fmt.Sprint(deep, " deep"), withRoot(l, dirNode("d", l[deep-1])), "one", code)
	}
}

func TestRestoreHoweverManyPlacesThereAre(t *testing.T) {
	files := wideFiles(20, 20, 20)
	for _, packs := range []int{6, 7, 8, 9, 10, 30} {
		a := manyPacks(emptyArray(code{1, 0}), packs)
		s := savingOf("one", files...)
		out := backupTells(t, fmt.Sprint(packs, " packs"), a, s, impl.OK)
		same(t, "added", out.Added, 64)
		b := doAll(t, a, out.Steps)
		same(t, "places", len(impl.RepoPlaces(b).Places), 40*packs+64)
		same(t, "as the test has it", checkRestore(t, "many places", b, "one").Code, impl.OK)
		restores(t, "many places", b, "one", files)
		s.name = "two"
		same(t, "nothing more", backupTells(t, "again", b, s, impl.OK).Added, 0)
	}
}

func TestRestoreOfBlobsInSeveralPacks(t *testing.T) {
	files := oneFiles()
	tree := wantTree(sixteens(), files)
	snap := impl.Snap{Name: "one", Root: tree.Root}
	a := withSnap(emptyArray(code{2, 1}), snap)
	first := withObject(withObject(a, "p-a", recordsOf(tree.Blobs)), "p-b", recordsOf(tree.Blobs))
	restores(t, "both", first, "one", files)
	for _, name := range []string{"p-a", "p-b"} {
		restores(t, "one lost", lost(first, name), "one", files)
		restoreTells(t, "one lost", lost(first, name), "one", impl.OK)
		restores(t, "one gone", gone(first, name), "one", files)
		restores(t, "one no pack", withObject(first, name, "no pack"), "one", files)
	}
	restoreTells(t, "both lost", lost(lost(first, "p-a"), "p-b"), "one", impl.ErrNone)
	for at := range tree.Blobs {
		part := slices.Delete(slices.Clone(tree.Blobs), at, at+1)
		b := withObject(withObject(a, "p-a", recordsOf(part)), "p-b", recordsOf(tree.Blobs[at:at+1]))
		restores(t, "in two packs", b, "one", files)
		restoreTells(t, "one blob lost", lost(b, "p-b"), "one", impl.ErrNone)
		restores(t, "one blob lost, and in a third one", withObject(lost(b, "p-b"), "p-c", recordsOf(tree.Blobs[:at+1])), "one", files)
		restoreTells(t, "by no pack's name", withObject(lost(b, "p-b"), "q-c", recordsOf(tree.Blobs)), "one", impl.ErrNone)
	}
}

// drawnRepo has some snapshots, told by their names, which have much in common.
func drawnRepo(t *testing.T, r *rand.Rand, c code) (impl.Array, map[string][]impl.File) {
	t.Helper()
	a, snaps := drawnArray(t, r, c), map[string][]impl.File{}
	cutting, l := drawnCutting(r), []impl.File(nil)
	for range r.Intn(5) {
		name := drawnSnap(r).Name
		if r.Intn(2) == 0 {
			l = drawnFiles(r, 6, 150)
		} else if len(l) > 0 {
			l = slices.Clone(l)
			l[r.Intn(len(l))].Text = drawnFileText(r, 150)
		}
		out := saving{r.Int63n(10), cutting, name, r.Int63n(1000001), l}.steps(a)
		if out.Code == impl.OK {
			a = doAll(t, a, out.Steps)
			snaps[name] = l
		}
	}
	return a, snaps
}

// restoresAll asks for the files of all snapshots.
func restoresAll(t *testing.T, what string, a impl.Array, snaps map[string][]impl.File) {
	t.Helper()
	for name, l := range snaps {
		restores(t, what, a, name, l)
	}
}

// drawnSaving is of no name that a snapshot has.
func drawnSaving(r *rand.Rand, snaps map[string][]impl.File) saving {
	s := saving{r.Int63n(10), drawnCutting(r), "new", r.Int63n(1000001), drawnFiles(r, 8, []int{20, 200, 1500}[r.Intn(3)])}
	for _, name := range slices.Sorted(maps.Keys(snaps)) {
		if r.Intn(4) == 0 {
			s.files = snaps[name]
		}
	}
	return s
}

// Promise 18.
func TestFilesAreRestoredBehindABackup(t *testing.T) {
	r := rand.New(rand.NewSource(155))
	done, none := 0, 0
	for i, c := range slices.Concat(rightCodes(), rightCodes(), rightCodes(), rightCodes()) {
		a, snaps := drawnRepo(t, r, c)
		restoresAll(t, "ahead of it", a, snaps)
		s := drawnSaving(r, snaps)
		want := checkBackup(t, "drawn", a, s)
		if want.Code != impl.OK {
			continue
		}
		done++
		if want.Added == 0 {
			none++
		}
		b := doAll(t, a, s.steps(a).Steps)
		restores(t, "behind it", b, s.name, s.files)
		restoresAll(t, "behind it", b, snaps)
		if i%4 == 0 {
			checkSnaps(t, "behind it", b)
			checkRepoPlaces(t, "behind it", b)
			checkRestore(t, "behind it", b, s.name)
		}
		same(t, "snapshots", len(impl.Snaps(b)), len(snaps)+1)
		s.name, s.tag = "newer", r.Int63n(10)
		again := s.steps(b)
		same(t, "the same files: code", again.Code, impl.OK)
		same(t, "the same files: added", again.Added, 0)
		same(t, "the same files: steps of the snapshot alone", len(again.Steps) <= 4*len(b.Drives), true)
		b = doAll(t, b, again.Steps)
		restores(t, "twice", b, "newer", s.files)
		snaps["new"] = s.files
		restoresAll(t, "twice", b, snaps)
	}
	same(t, "enough of them", done > 150 && none > 10, true)
}

// Promise 18, where an array that is hurt has snapshots that are not restored.
func TestOtherSnapshotsStayBehindABackup(t *testing.T) {
	r := rand.New(rand.NewSource(156))
	told := map[int64]int{}
	for range 100 {
		a, snaps := drawnRepo(t, r, drawnCode(r))
		for _, name := range impl.ObjectNames(a) {
			if r.Intn(4) == 0 {
				a = hurtOn(a, name, r.Intn(len(a.Drives)), r.Int63n(int64(len(a.Drives))+1))
			}
		}
		s := drawnSaving(r, snaps)
		out := s.steps(a)
		if out.Code != impl.OK {
			continue
		}
		b := doAll(t, a, out.Steps)
		restores(t, "new", b, s.name, s.files)
		for name, l := range snaps {
			was, is := impl.Restore(a, name), impl.Restore(b, name)
			told[was.Code]++
			if was.Code == impl.OK || is.Code == impl.OK {
				same(t, "code", is.Code, impl.OK)
				sameList(t, "files", is.Files, l)
			}
		}
		s.name = "newer"
		same(t, "the same files", s.steps(b).Added, 0)
	}
	same(t, fmt.Sprint("enough of each: ", told), told[impl.OK] > 20 && told[impl.ErrLost]+told[impl.ErrNone] > 10, true)
}

// Promise 19.
func TestThePowerMayGoInABackup(t *testing.T) {
	r := rand.New(rand.NewSource(157))
	told := map[int64]int{}
	codes := append(slices.Repeat([]code{{1, 0}, {2, 0}, {1, 1}, {2, 1}, {1, 2}, {2, 2}, {3, 1}}, 3), code{4, 3}, code{8, 6}, drawnCode(r))
	for _, c := range codes {
		a, snaps := drawnRepo(t, r, c)
		// Then all files are synced.
		a = thePowerGoes(r, a)
		restoresAll(t, "ahead of it", a, snaps)
		s := drawnSaving(r, snaps)
		out := s.steps(a)
		if out.Code != impl.OK {
			continue
		}
		for n := range len(out.Steps) + 1 {
			done := impl.StepsDo(a, out.Steps, int64(n))
			same(t, "done", done.Done, int64(n))
			b := thePowerGoes(r, done.Array)
			what := fmt.Sprint("the power goes behind ", n, " of ", len(out.Steps), " steps by ", c)
			restoresAll(t, what, b, snaps)
			got := impl.Restore(b, s.name)
			told[got.Code]++
			if got.Code == impl.OK {
				sameList(t, what, got.Files, s.files)
			} else {
				same(t, what+": code", got.Code == impl.ErrNone || got.Code == impl.ErrLost, true)
				sameList(t, what+": no files", got.Files, nil)
			}
			same(t, what+": whole, where it is there", got.Code == impl.OK, impl.ObjectGet(b, "s-"+s.name).Code == impl.OK)
			same(t, what+": there behind all", n < len(out.Steps) || got.Code == impl.OK, true)
			if n%5 == 0 && got.Code != impl.OK {
				again := s.steps(b)
				same(t, what+": begun anew", again.Code, impl.OK)
				restores(t, what+": begun anew", doAll(t, b, again.Steps), s.name, s.files)
			}
		}
	}
	same(t, fmt.Sprint("enough of each: ", told), told[impl.OK] > 20 && told[impl.ErrNone] > 200 && told[impl.ErrLost] > 10, true)
}

// hurtFiles removes files of these drives, or turns a byte of them.
func hurtFiles(r *rand.Rand, a impl.Array, drives []int, most int) impl.Array {
	a = copiedArray(a)
	for _, drive := range drives {
		d := a.Drives[drive]
		for _, name := range namesOf(d) {
			size := len(byName(d)[name].Text)
			if r.Intn(most) > 0 {
				continue
			}
			if r.Intn(2) == 0 || size == 0 {
				d = impl.DriveDo(d, impl.Op{Kind: impl.OpRemove, Name: name}).Drive
			} else {
				d = impl.DriveRot(d, name, int64(r.Intn(size)), int64(1+r.Intn(255)))
			}
		}
		a.Drives[drive] = d
	}
	return a
}

// Promise 20.
func TestHurtSnapshotsAreRestoredAsTheyWereOrNot(t *testing.T) {
	r := rand.New(rand.NewSource(158))
	told := map[int64]int{}
	for _, c := range slices.Concat(rightCodes(), rightCodes()) {
		a, snaps := drawnRepo(t, r, c)
		for range 4 {
			drives := r.Perm(len(a.Drives))
			b := hurtFiles(r, a, drives[:c.m], 1+r.Intn(3))
			restoresAll(t, fmt.Sprint("hurt as many as there is parity, by ", c), b, snaps)
			// The others are hurt, too, now and then.
			b = hurtFiles(r, b, drives, 1+r.Intn(30))
			for name, l := range snaps {
				got := impl.Restore(b, name)
				told[got.Code]++
				what := fmt.Sprintf("hurt, by %v: %s", c, name)
				if got.Code == impl.OK {
					sameList(t, what, got.Files, l)
				} else {
					same(t, what+": code", got.Code == impl.ErrNone || got.Code == impl.ErrLost, true)
					sameList(t, what+": no files", got.Files, nil)
				}
			}
		}
	}
	same(t, fmt.Sprint("enough of each: ", told), told[impl.OK] > 100 && told[impl.ErrNone] > 20 && told[impl.ErrLost] > 20, true)
}

// Promise 20, for each choice of drives.
func TestSnapshotsAreRestoredFromEachChoiceOfDrives(t *testing.T) {
	r := rand.New(rand.NewSource(159))
	for _, c := range []code{{1, 0}, {1, 1}, {1, 3}, {2, 1}, {2, 2}, {3, 2}, {4, 2}, {2, 6}} {
		a, s := emptyArray(c), savingOf("one", oneFiles()...)
		a = doAll(t, a, s.steps(a).Steps)
		for _, drives := range choices(r, len(a.Drives), int(c.m), math.MaxInt) {
			for most := 1; most <= 2; most++ {
				restores(t, fmt.Sprint("drives ", drives), hurtFiles(r, a, drives, most), "one", oneFiles())
			}
		}
		for _, drives := range choices(r, len(a.Drives), int(c.m)+1, math.MaxInt) {
			b := hurtFiles(r, a, drives, 1)
			restoreTells(t, fmt.Sprint("one drive more, ", drives), b, "one", wantObjectGet(b, "s-one").Code)
			same(t, "refused", impl.Restore(b, "one").Code != impl.OK, true)
		}
	}
}

// Promise 20: no byte of a pack or a snapshot may be another one.
func TestSnapshotsAreRestoredThoughAnyByteIsTurned(t *testing.T) {
	a := emptyArray(code{2, 1})
	a = doAll(t, a, savingOf("one", impl.File{Path: "a", Text: numberedText(0, 2)}).steps(a).Steps)
	for drive, d := range a.Drives {
		for _, f := range d.Files {
			for at := range f.Text {
				b := copiedArray(a)
				b.Drives[drive] = impl.DriveRot(d, f.Name, int64(at), int64(1+at%255))
				restores(t, "turned", b, "one", []impl.File{{Path: "a", Text: numberedText(0, 2)}})
				same(t, "snaps", len(impl.Snaps(b)), 1)
				same(t, "places", len(impl.RepoPlaces(b).Places), 3)
			}
		}
	}
}

// drawnMess is a repository hurt and changed so that all that is told hangs on each of its files.
func drawnMess(t *testing.T, r *rand.Rand) (impl.Array, []string) {
	t.Helper()
	a, snaps := drawnRepo(t, r, drawnCode(r))
	names := slices.Sorted(maps.Keys(snaps))
	for range r.Intn(5) {
		objects := append(impl.ObjectNames(a), "s-x", "p-x", "s-new", "p-")
		name, other := objects[r.Intn(len(objects))], objects[r.Intn(len(objects))]
		switch r.Intn(4) {
		case 0:
			a = hurtOn(a, name, r.Intn(len(a.Drives)), r.Int63n(int64(len(a.Drives))+1))
		case 1:
			a = withObject(a, name, impl.ObjectGet(a, other).Text)
		case 2:
			a = withObject(a, name, recordsOf(drawnPack(r)))
		default:
			a = withFileOn(a, r.Intn(len(a.Drives)), name, drawnText(r, r.Intn(60)))
		}
		if len(name) > 2 && name[0] == 's' {
			names = append(names, name[2:])
		}
	}
	return a, append(names, "new")
}

func TestRepoOfDrawnArrays(t *testing.T) {
	r := rand.New(rand.NewSource(160))
	told := map[int64]int{}
	for range 150 {
		a, names := drawnMess(t, r)
		checkSnaps(t, "drawn", a)
		for _, p := range checkRepoPlaces(t, "drawn", a).Places {
			if r.Intn(20) == 0 {
				checkRepoBlob(t, "drawn", a, p.Key)
			}
		}
		for _, name := range names {
			told[checkRestore(t, "drawn", a, name).Code]++
		}
		s := drawnSaving(r, nil)
		s.name = names[r.Intn(len(names))]
		checkBackup(t, "drawn", a, s)
	}
	for _, code := range []int64{impl.OK, impl.ErrSyntax, impl.ErrNone, impl.ErrLost} {
		same(t, fmt.Sprint("code ", code, " often enough: ", told[code]), told[code] >= 10, true)
	}
}

// What a map has is gone through in another order each time.
func TestRepoIsToldInOneOrder(t *testing.T) {
	a := manyPacks(smallRepo(t), 8)
	s := savingOf("new", wideFiles(30, 30, 30)...)
	places, steps := storeOf(a).places, wantBackup(a, s.tag, s.c, s.name, s.day, s.files).Steps
	for range 20 {
		sameList(t, "Snaps", impl.Snaps(a), wantSnaps(a))
		sameList(t, "RepoPlaces", impl.RepoPlaces(a).Places, places)
		sameList(t, "BackupSteps", s.steps(a).Steps, steps)
		restores(t, "Restore", a, "one", oneFiles())
	}
}

func TestRepoSideBySide(t *testing.T) {
	const workers = 16
	a := manyPacks(smallRepo(t), 4)
	places, snaps := storeOf(a).places, wantSnaps(a)
	var toldPlaces [workers]impl.PlacesOut
	var toldSnaps [workers][]impl.Snap
	var blobs [workers]impl.BlobOut
	var steps [workers]impl.StepsOut
	var files [workers]impl.FilesOut
	all := numberedFiles(20)
	var group sync.WaitGroup
	for i := range workers {
		group.Go(func() {
			toldPlaces[i] = impl.RepoPlaces(a)
			toldSnaps[i] = impl.Snaps(a)
			blobs[i] = impl.RepoBlob(a, places[i].Key)
			steps[i] = savingOf("new", all[:i]...).steps(a)
			files[i] = impl.Restore(a, "one")
		})
	}
	group.Wait()
	for i := range workers {
		sameList(t, "RepoPlaces", toldPlaces[i].Places, places)
		sameList(t, "Snaps", toldSnaps[i], snaps)
		same(t, "RepoBlob", blobs[i], wantRepoBlob(a, places[i].Key))
		sameList(t, "BackupSteps", steps[i].Steps, wantBackup(a, 0, sixteens(), "new", 7, all[:i]).Steps)
		sameList(t, "Restore", files[i].Files, oneFiles())
	}
}
