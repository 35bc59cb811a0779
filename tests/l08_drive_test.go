package tests

import (
	"fmt"
	"maps"
	"math"
	"math/rand"
	"regexp"
	"slices"
	"strings"
	"sync"
	"testing"

	"loop.example/g00259/impl"
)

// namePattern is chapter 1's, as the library reads it.
var namePattern = regexp.MustCompile(`^[a-z][a-z0-9-]{0,79}$`)

func wantStoredRight(f impl.Stored) bool {
	return namePattern.MatchString(f.Name) && len(f.Text) <= 20000 && f.Synced >= 0 && f.Synced <= int64(len(f.Text))
}

func wantDriveRight(d impl.Drive) bool {
	if len(d.Files) > 60 || d.Room < 0 || d.Room > 100000 {
		return false
	}
	names, size := namesOf(d), 0
	for _, f := range d.Files {
		if !wantStoredRight(f) {
			return false
		}
		size += len(f.Text)
	}
	rising := slices.Clone(names)
	slices.Sort(rising)
	return slices.Equal(slices.Compact(rising), names) && int64(size) <= d.Room
}

func wantOpRight(o impl.Op) bool {
	if !namePattern.MatchString(o.Name) {
		return false
	}
	switch o.Kind {
	case 1:
		return o.To == "" && len(o.Text) <= 20000
	case 2, 4:
		return o.To == "" && o.Text == ""
	case 3:
		return namePattern.MatchString(o.To) && o.Text == ""
	}
	return false
}

func namesOf(d impl.Drive) []string {
	var names []string
	for _, f := range d.Files {
		names = append(names, f.Name)
	}
	return names
}

// byName is a right drive's files without their order.
func byName(d impl.Drive) map[string]impl.Stored {
	files := map[string]impl.Stored{}
	for _, f := range d.Files {
		files[f.Name] = f
	}
	return files
}

// inOrder puts files back on a drive, each under the name that it has there.
func inOrder(files map[string]impl.Stored, room int64) impl.Drive {
	d := impl.Drive{Room: room}
	for _, name := range slices.Sorted(maps.Keys(files)) {
		f := files[name]
		d.Files = append(d.Files, impl.Stored{Name: name, Text: f.Text, Synced: f.Synced})
	}
	return d
}

func wantDo(d impl.Drive, o impl.Op) impl.DriveOut {
	if !wantDriveRight(d) || !wantOpRight(o) {
		return impl.DriveOut{Code: impl.ErrForm}
	}
	files, left := byName(d), int(d.Room)
	for _, f := range d.Files {
		left -= len(f.Text)
	}
	f, there := files[o.Name]
	switch {
	case o.Kind == 1 && there:
		return impl.DriveOut{Code: impl.ErrThere}
	case o.Kind == 1 && (len(files) == 60 || len(o.Text) > left):
		return impl.DriveOut{Code: impl.ErrFull}
	case o.Kind == 1:
		files[o.Name] = impl.Stored{Text: o.Text}
	case !there:
		return impl.DriveOut{Code: impl.ErrNone}
	case o.Kind == 2:
		files[o.Name] = impl.Stored{Text: f.Text, Synced: int64(len(f.Text))}
	case o.Kind == 3:
		delete(files, o.Name)
		files[o.To] = f
	default:
		delete(files, o.Name)
	}
	return impl.DriveOut{Drive: inOrder(files, d.Room)}
}

func wantDriveRead(d impl.Drive, name string) impl.DataOut {
	if len(name) > 20000 {
		return impl.DataOut{Code: impl.ErrSize}
	}
	if !wantDriveRight(d) {
		return impl.DataOut{Code: impl.ErrForm}
	}
	f, there := byName(d)[name]
	if !there {
		return impl.DataOut{Code: impl.ErrNone}
	}
	return impl.DataOut{Text: f.Text}
}

func wantCrash(d impl.Drive, keep []int64) impl.Drive {
	if len(keep) > 400 {
		return impl.Drive{}
	}
	if !wantDriveRight(d) {
		return d
	}
	out := impl.Drive{Room: d.Room}
	for i, f := range d.Files {
		stays := f.Text[:f.Synced]
		// Byte by byte, so that no sum leaves int64.
		for j := int64(0); i < len(keep) && j < keep[i] && len(stays) < len(f.Text); j++ {
			stays = f.Text[:len(stays)+1]
		}
		out.Files = append(out.Files, impl.Stored{Name: f.Name, Text: stays, Synced: int64(len(stays))})
	}
	return out
}

func wantRot(d impl.Drive, name string, at int64, turn int64) impl.Drive {
	if len(name) > 20000 {
		return impl.Drive{}
	}
	out := impl.Drive{Files: slices.Clone(d.Files), Room: d.Room}
	for i, f := range out.Files {
		if wantDriveRight(d) && f.Name == name && at >= 0 && at < int64(len(f.Text)) && turn >= 0 && turn <= 255 {
			out.Files[i].Text = f.Text[:at] + string([]byte{f.Text[at] ^ byte(turn)}) + f.Text[at+1:]
		}
	}
	return out
}

// sameDrive takes no files and nil for the same, as chapter 1 does.
func sameDrive(t *testing.T, what string, got impl.Drive, want impl.Drive) {
	t.Helper()
	same(t, what+": room", got.Room, want.Room)
	if !slices.Equal(got.Files, want.Files) {
		t.Fatalf("%s: got %s, want %s", what, shown(got.Files), shown(want.Files))
	}
}

// A soft thing is over bytes and places that can be changed behind the call.
type softMemory struct {
	bytes  [][]byte
	clears []func()
}

func (m *softMemory) text(text string) string {
	out, b := soft(text)
	m.bytes = append(m.bytes, b)
	return out
}

// drive has files behind its last one in the list's room, which a call may not change, either.
func (m *softMemory) drive(d impl.Drive) impl.Drive {
	room := make([]impl.Stored, len(d.Files)+3)
	for i := range room {
		room[i] = impl.Stored{Name: "behind", Text: "behind", Synced: 3}
	}
	for i, f := range d.Files {
		room[i] = impl.Stored{Name: m.text(f.Name), Text: m.text(f.Text), Synced: f.Synced}
	}
	m.clears = append(m.clears, func() { clear(room) })
	return impl.Drive{Files: room[:len(d.Files)], Room: d.Room}
}

func (m *softMemory) op(o impl.Op) impl.Op {
	return impl.Op{Kind: o.Kind, Name: m.text(o.Name), To: m.text(o.To), Text: m.text(o.Text)}
}

func (m *softMemory) numbers(l []int64) []int64 {
	room := make([]int64, len(l)+3)
	copy(room, l)
	m.clears = append(m.clears, func() { clear(room) })
	return room[:len(l)]
}

func (m *softMemory) spoil() {
	for _, b := range m.bytes {
		spoil(b)
	}
	for _, c := range m.clears {
		c()
	}
}

func driveUnchanged(t *testing.T, what string, given impl.Drive, d impl.Drive) {
	t.Helper()
	sameDrive(t, what+": the drive handed in", given, d)
	for _, f := range given.Files[len(d.Files):cap(given.Files)] {
		same(t, what+": behind the files", f, impl.Stored{Name: "behind", Text: "behind", Synced: 3})
	}
}

// calledTwice asks that a drive is told as wanted by each of two calls, that nothing handed in is changed, and that no
// answer shares memory with what was handed in, nor with the other answer.
func calledTwice(t *testing.T, what string, d impl.Drive, want impl.Drive, m *softMemory, call func(impl.Drive) impl.Drive) {
	t.Helper()
	given := m.drive(d)
	got := call(given)
	driveUnchanged(t, what, given, d)
	sameDrive(t, what, got, want)
	again := call(given)
	driveUnchanged(t, what+", again", given, d)
	m.spoil()
	sameDrive(t, what+", spoilt", got, want)
	clear(got.Files[:cap(got.Files)])
	sameDrive(t, what+", again", again, want)
}

func checkDo(t *testing.T, d impl.Drive, o impl.Op) impl.DriveOut {
	t.Helper()
	what := fmt.Sprintf("DriveDo of %d files, kind %d, %q to %q, %d bytes", len(d.Files), o.Kind, short(o.Name), short(o.To), len(o.Text))
	want := wantDo(d, o)
	m := &softMemory{}
	op := m.op(o)
	calledTwice(t, what, d, want.Drive, m, func(d impl.Drive) impl.Drive {
		got := impl.DriveDo(d, op)
		same(t, what+": op", op, o)
		same(t, what+": code", got.Code, want.Code)
		return got.Drive
	})
	return want
}

// short leaves out most of a long name.
func short(name string) string {
	return name[:min(len(name), 90)]
}

func checkDriveRead(t *testing.T, d impl.Drive, name string) {
	t.Helper()
	what := fmt.Sprintf("DriveRead of %d files, %q", len(d.Files), short(name))
	want := wantDriveRead(d, name)
	m := &softMemory{}
	given, asked := m.drive(d), m.text(name)
	got, again := impl.DriveRead(given, asked), impl.DriveRead(given, asked)
	driveUnchanged(t, what, given, d)
	same(t, what+": name", asked, name)
	m.spoil()
	same(t, what, got, want)
	same(t, what+", again", again, want)
}

func checkNames(t *testing.T, d impl.Drive) {
	t.Helper()
	what := fmt.Sprintf("DriveNames of %d files", len(d.Files))
	var want []string
	if wantDriveRight(d) {
		want = namesOf(d)
	}
	m := &softMemory{}
	given := m.drive(d)
	got, again := impl.DriveNames(given), impl.DriveNames(given)
	driveUnchanged(t, what, given, d)
	m.spoil()
	same(t, what, slices.Equal(got, want), true)
	clear(got[:cap(got)])
	same(t, what+", again", slices.Equal(again, want), true)
}

func checkCrash(t *testing.T, d impl.Drive, keep []int64) {
	t.Helper()
	what := fmt.Sprintf("DriveCrash of %d files, %d kept", len(d.Files), len(keep))
	m := &softMemory{}
	given := m.numbers(keep)
	calledTwice(t, what, d, wantCrash(d, keep), m, func(d impl.Drive) impl.Drive {
		got := impl.DriveCrash(d, given)
		same(t, what+": keep", slices.Equal(given, keep), true)
		same(t, what+": behind keep", slices.Equal(given[len(keep):cap(given)], []int64{0, 0, 0}), true)
		return got
	})
}

func checkRot(t *testing.T, d impl.Drive, name string, at int64, turn int64) {
	t.Helper()
	what := fmt.Sprintf("DriveRot of %d files, %q, at %d by %d", len(d.Files), short(name), at, turn)
	m := &softMemory{}
	asked := m.text(name)
	calledTwice(t, what, d, wantRot(d, name, at, turn), m, func(d impl.Drive) impl.Drive {
		got := impl.DriveRot(d, asked, at, turn)
		same(t, what+": name", asked, name)
		return got
	})
}

func checkDriveRight(t *testing.T, what string, d impl.Drive, want bool) {
	t.Helper()
	same(t, what+": as the test has it", wantDriveRight(d), want)
	m := &softMemory{}
	given := m.drive(d)
	same(t, what, impl.DriveRight(given), want)
	driveUnchanged(t, what, given, d)
	same(t, what+", again", impl.DriveRight(given), want)
}

// someFiles are on a right drive with room for ten bytes more; all bytes of the first are synced, of the others fewer.
func someFiles(count int) impl.Drive {
	d := impl.Drive{Room: 10}
	for i := range count {
		text := letters(5 + i)
		d.Files = append(d.Files, impl.Stored{Name: fmt.Sprintf("f%03d", 2*i), Text: text, Synced: int64(max(5-i, 0))})
		d.Room += int64(len(text))
	}
	return d
}

// drawnName is short and of few signs, so that names meet, and begin each other.
func drawnName(r *rand.Rand) string {
	name := string("ab"[r.Intn(2)])
	for range r.Intn(4) {
		name += string("ab0-"[r.Intn(4)])
	}
	if r.Intn(20) == 0 {
		name += strings.Repeat("x", 80-len(name))
	}
	return name
}

func drawnSize(r *rand.Rand, left int) int {
	switch r.Intn(12) {
	case 0:
		return 0
	case 1:
		return min(left, impl.MaxBytes)
	case 2:
		return r.Intn(min(left, impl.MaxBytes) + 1)
	}
	return r.Intn(min(left, 40) + 1)
}

// drawnDrive is right.
func drawnDrive(r *rand.Rand) impl.Drive {
	rooms := []int{0, 1, r.Intn(100), r.Intn(1000), r.Intn(impl.MaxRoom + 1), impl.MaxRoom}
	room := rooms[r.Intn(len(rooms))]
	files, left := map[string]impl.Stored{}, room
	most := []int{0, 1, 2, r.Intn(10), r.Intn(61), 60}[r.Intn(6)]
	for range 3 * most {
		name := drawnName(r)
		if _, there := files[name]; there || len(files) == most {
			continue
		}
		text := drawnText(r, drawnSize(r, left))
		synced := []int{0, len(text), r.Intn(len(text) + 1)}[r.Intn(3)]
		files[name] = impl.Stored{Text: text, Synced: int64(synced)}
		left -= len(text)
	}
	if r.Intn(2) == 0 {
		room -= left
	}
	return inOrder(files, int64(room))
}

func drawnKeep(r *rand.Rand, d impl.Drive) []int64 {
	count := []int{0, r.Intn(len(d.Files) + 1), len(d.Files), len(d.Files) + r.Intn(5), impl.MaxList}[r.Intn(5)]
	keep := make([]int64, count)
	for i := range keep {
		left := int64(r.Intn(50))
		if i < len(d.Files) {
			left = int64(len(d.Files[i].Text)) - d.Files[i].Synced
		}
		keep[i] = []int64{-1, 0, 1, left - 1, left, left + 1, r.Int63n(left + 1), math.MinInt64, math.MaxInt64}[r.Intn(9)]
	}
	return keep
}

// drawnNameOn is often one of the drive's.
func drawnNameOn(r *rand.Rand, d impl.Drive) string {
	if len(d.Files) > 0 && r.Intn(3) > 0 {
		return d.Files[r.Intn(len(d.Files))].Name
	}
	return drawnName(r)
}

// drawnOp is right.
func drawnOp(r *rand.Rand, d impl.Drive) impl.Op {
	o := impl.Op{Kind: 1 + r.Int63n(4), Name: drawnNameOn(r, d)}
	left := int(d.Room)
	for _, f := range d.Files {
		left -= len(f.Text)
	}
	switch {
	case o.Kind == impl.OpRename:
		o.To = drawnNameOn(r, d)
	case o.Kind == impl.OpWrite && r.Intn(8) == 0:
		o.Text = drawnText(r, min(left+r.Intn(2), impl.MaxBytes))
	case o.Kind == impl.OpWrite:
		o.Name = drawnName(r)
		o.Text = drawnText(r, drawnSize(r, left))
	}
	return o
}

func TestDriveConstants(t *testing.T) {
	same(t, "MaxFiles", impl.MaxFiles, 60)
	same(t, "MaxRoom", impl.MaxRoom, 100000)
	same(t, "OpWrite", impl.OpWrite, 1)
	same(t, "OpSync", impl.OpSync, 2)
	same(t, "OpRename", impl.OpRename, 3)
	same(t, "OpRemove", impl.OpRemove, 4)
}

// wrongNames are those that no file has.
func wrongNames() []string {
	l := []string{"", "0", "9a", "-", "-a", "A", "aB", "a.b", "a_b", "a b", " a", "a ", "a/b", "a\n", "a\x00", "\x00", "{", "`",
		"a{", "a`", "a/", "a:", "a@", "a,", "a\xff", "\xffa", "ä", "aä", "t\u212a", strings.Repeat("a", 81), strings.Repeat("a", 82),
		strings.Repeat("a", 79) + "A", strings.Repeat("a", 79) + "é", letters(200)}
	return append(l, strings.Repeat("a", impl.MaxBytes), strings.Repeat("a", impl.MaxBytes+1))
}

func rightNames() []string {
	return []string{"a", "z", "a-", "a0", "a9", "az", "a--", "t-0-x", strings.Repeat("a", 79), strings.Repeat("z", 80), "a" + strings.Repeat("-", 79)}
}

// edges are the numbers around 0 and around most.
func edges(most int64) []int64 {
	return []int64{-1, 0, 1, most - 1, most, most + 1, math.MinInt64, math.MinInt64 + 1, math.MaxInt64, math.MaxInt64 - 1, 1 << 32, 1<<32 + 1, -1 << 32}
}

func TestDriveRightByCounts(t *testing.T) {
	for _, count := range []int{0, 1, 2, 59, 60, 61, 62, 120, 400, 401, 500} {
		d := impl.Drive{Room: impl.MaxRoom}
		for i := range count {
			d.Files = append(d.Files, impl.Stored{Name: fmt.Sprintf("f%03d", i), Text: "x"})
		}
		checkDriveRight(t, fmt.Sprint(count, " files"), d, count <= 60)
	}
	checkDriveRight(t, "the zero one", impl.Drive{}, true)
	checkDriveRight(t, "no files", impl.Drive{Files: []impl.Stored{}}, true)
}

func TestDriveRightByRooms(t *testing.T) {
	for _, room := range edges(impl.MaxRoom) {
		right := room >= 0 && room <= 100000
		checkDriveRight(t, fmt.Sprint("room ", room), impl.Drive{Room: room}, right)
		empty := impl.Drive{Room: room, Files: []impl.Stored{{Name: "a"}, {Name: "b"}}}
		checkDriveRight(t, fmt.Sprint("room ", room, ", empty texts"), empty, right)
		one := impl.Drive{Room: room, Files: []impl.Stored{{Name: "a", Text: "x"}}}
		checkDriveRight(t, fmt.Sprint("room ", room, ", a byte"), one, right && room > 0)
	}
	for _, count := range []int{1, 2, 3, 60} {
		d := someFiles(count)
		d.Room -= 10
		checkDriveRight(t, "just room", d, true)
		for i := range d.Files {
			more := impl.Drive{Files: slices.Clone(d.Files), Room: d.Room}
			more.Files[i].Text += "x"
			checkDriveRight(t, "a byte more", more, false)
			more.Room++
			checkDriveRight(t, "a byte and its room more", more, true)
		}
	}
	full := impl.Drive{Room: impl.MaxRoom}
	for i := range 5 {
		full.Files = append(full.Files, impl.Stored{Name: fmt.Sprint("f", i), Text: letters(impl.MaxBytes), Synced: impl.MaxBytes})
	}
	checkDriveRight(t, "all the room that there may be", full, true)
	full.Files = append(full.Files, impl.Stored{Name: "g", Text: "x"})
	checkDriveRight(t, "a byte more than there may be", full, false)
}

// withFile is a right drive of so many files, of which the one at that place is the given one; its name is left out, if
// it is to rise with the others.
func withFile(count int, at int, f impl.Stored) impl.Drive {
	d := someFiles(count)
	d.Room = impl.MaxRoom
	if f.Name == "" {
		f.Name = d.Files[at].Name
	}
	d.Files[at] = f
	return d
}

// somePlaces are the first, a middle and the last of so many.
func somePlaces(count int) []int {
	return slices.Compact([]int{0, count / 2, count - 1})
}

func TestDriveRightByNames(t *testing.T) {
	for _, name := range wrongNames() {
		checkDriveRight(t, "alone", impl.Drive{Files: []impl.Stored{{Name: name}}}, false)
		for _, count := range []int{2, 3, 60} {
			for _, at := range somePlaces(count) {
				d := someFiles(count)
				d.Files[at].Name = name
				checkDriveRight(t, fmt.Sprintf("%q at %d of %d", short(name), at, count), d, false)
			}
		}
		// In its place by the order alone, this name is the only fault.
		d := impl.Drive{Files: []impl.Stored{{Name: "a"}, {Name: name}, {Name: "k"}, {Name: "zz"}}}
		slices.SortFunc(d.Files, func(a, b impl.Stored) int { return strings.Compare(a.Name, b.Name) })
		checkDriveRight(t, fmt.Sprintf("%q in its place", short(name)), d, false)
	}
	for _, name := range rightNames() {
		checkDriveRight(t, name, impl.Drive{Files: []impl.Stored{{Name: name}}}, true)
	}
	all := impl.Drive{}
	for _, name := range slices.Sorted(slices.Values(rightNames())) {
		all.Files = append(all.Files, impl.Stored{Name: name})
	}
	checkDriveRight(t, "all right names", all, true)
}

func TestDriveRightByOrder(t *testing.T) {
	pairs := []struct {
		first, second string
		right         bool
	}{
		{"a", "a", false}, {"a", "b", true}, {"b", "a", false}, {"a", "aa", true}, {"aa", "a", false}, {"a", "a-", true}, {"a-", "a", false},
		{"a-", "a0", true}, {"a0", "a-", false}, {"a9", "aa", true}, {"aa", "a9", false}, {"ab", "b", true}, {"b", "ab", false},
		{"a10", "a9", true}, {"a9", "a10", false}, {strings.Repeat("a", 79), strings.Repeat("a", 80), true},
		{strings.Repeat("a", 80), strings.Repeat("a", 79), false}, {strings.Repeat("a", 80), strings.Repeat("a", 80), false},
	}
	for _, p := range pairs {
		l := []impl.Stored{{Name: p.first}, {Name: p.second}}
		what := fmt.Sprintf("%q, %q", p.first, p.second)
		checkDriveRight(t, what, impl.Drive{Files: l}, p.right)
		behind := []impl.Stored{{Name: "c"}, {Name: "d"}, {Name: "e"}}
		checkDriveRight(t, what+" first", impl.Drive{Files: slices.Concat(l, behind)}, p.right)
	}
	for _, count := range []int{2, 3, 4, 60} {
		for at := range count - 1 {
			d := someFiles(count)
			d.Files[at+1].Name = d.Files[at].Name
			checkDriveRight(t, fmt.Sprint("two alike at ", at, " of ", count), d, false)
			d = someFiles(count)
			d.Files[at], d.Files[at+1] = d.Files[at+1], d.Files[at]
			checkDriveRight(t, fmt.Sprint("two that fall at ", at, " of ", count), d, false)
			d = someFiles(count)
			d.Files[at+1].Name = d.Files[at].Name + "x"
			checkDriveRight(t, fmt.Sprint("one begins the next at ", at, " of ", count), d, true)
			d.Files[at].Name, d.Files[at+1].Name = d.Files[at+1].Name, d.Files[at].Name
			checkDriveRight(t, fmt.Sprint("one ends in the next at ", at, " of ", count), d, false)
		}
	}
	apart := someFiles(4)
	apart.Files[3].Name = apart.Files[0].Name
	checkDriveRight(t, "two alike far off", apart, false)
}

func TestDriveRightByTexts(t *testing.T) {
	for _, count := range []int{1, 2, 3, 60} {
		for _, at := range somePlaces(count) {
			for _, size := range []int{0, 1, 19999, 20000, 20001, 20002, 40000} {
				f := impl.Stored{Text: letters(size)}
				checkDriveRight(t, fmt.Sprint(size, " bytes at ", at, " of ", count), withFile(count, at, f), size <= 20000)
			}
		}
	}
}

func TestDriveRightBySynced(t *testing.T) {
	for _, size := range []int{0, 1, 7, impl.MaxBytes} {
		for _, synced := range edges(int64(size)) {
			for _, count := range []int{1, 2, 3, 60} {
				for _, at := range somePlaces(count) {
					f := impl.Stored{Text: letters(size), Synced: synced}
					what := fmt.Sprint(synced, " of ", size, " bytes at ", at, " of ", count)
					checkDriveRight(t, what, withFile(count, at, f), synced >= 0 && synced <= int64(size))
				}
			}
		}
	}
}

func TestDriveRightOfDrawnOnes(t *testing.T) {
	r := rand.New(rand.NewSource(101))
	for range 500 {
		checkDriveRight(t, "drawn", drawnDrive(r), true)
	}
}

// wrongDrives have one fault each, and file names, texts and places that would do.
func wrongDrives() []impl.Drive {
	var l []impl.Drive
	for _, room := range []int64{-1, impl.MaxRoom + 1, math.MinInt64, math.MaxInt64} {
		l = append(l, impl.Drive{Room: room}, impl.Drive{Room: room, Files: someFiles(3).Files})
	}
	tight := someFiles(3)
	tight.Room -= 11
	l = append(l, tight)
	many := someFiles(61)
	l = append(l, many)
	for _, count := range []int{1, 3} {
		for _, at := range somePlaces(count) {
			for _, name := range []string{"", "0", "F000", strings.Repeat("f", 81)} {
				d := someFiles(count)
				d.Files[at].Name = name
				l = append(l, d)
			}
			l = append(l, withFile(count, at, impl.Stored{Text: letters(impl.MaxBytes + 1), Synced: 2}))
			for _, synced := range []int64{-1, 8, math.MinInt64, math.MaxInt64} {
				l = append(l, withFile(count, at, impl.Stored{Text: "abcdefg", Synced: synced}))
			}
		}
	}
	for at := range 2 {
		alike, falling := someFiles(3), someFiles(3)
		alike.Files[at+1].Name = alike.Files[at].Name
		falling.Files[at], falling.Files[at+1] = falling.Files[at+1], falling.Files[at]
		l = append(l, alike, falling)
	}
	return l
}

func TestDrivesThatAreNotRight(t *testing.T) {
	for i, d := range wrongDrives() {
		what := fmt.Sprint("wrong drive ", i)
		checkDriveRight(t, what, d, false)
		checkNames(t, d)
		same(t, what+": names", len(impl.DriveNames(d)), 0)
		for _, name := range append(namesOf(d), "f000", "none", "") {
			checkDriveRead(t, d, name)
			checkRot(t, d, name, 0, 1)
			for _, o := range rightOps(name, "new") {
				checkDo(t, d, o)
				got := impl.DriveDo(d, o)
				same(t, what+": code", got.Code, impl.ErrForm)
				sameDrive(t, what+": nothing beside it", got.Drive, impl.Drive{})
			}
		}
		same(t, what+": read", impl.DriveRead(d, "f000"), impl.DataOut{Code: impl.ErrForm})
		for _, keep := range [][]int64{nil, {1, 1, 1}, {math.MaxInt64}} {
			checkCrash(t, d, keep)
			sameDrive(t, what+": crashed", impl.DriveCrash(d, keep), d)
		}
		sameDrive(t, what+": rotten", impl.DriveRot(d, "f000", 0, 1), d)
	}
}

// rightOps are one of each kind, of a file of that name, if that is one.
func rightOps(name string, to string) []impl.Op {
	return []impl.Op{{Kind: impl.OpWrite, Name: name, Text: "text"}, {Kind: impl.OpSync, Name: name},
		{Kind: impl.OpRename, Name: name, To: to}, {Kind: impl.OpRemove, Name: name}}
}

func checkOpRight(t *testing.T, o impl.Op, want bool) {
	t.Helper()
	what := fmt.Sprintf("kind %d, %q to %q, %d bytes", o.Kind, short(o.Name), short(o.To), len(o.Text))
	same(t, what+": as the test has it", wantOpRight(o), want)
	m := &softMemory{}
	given := m.op(o)
	same(t, what, impl.OpRight(given), want)
	same(t, what+": op", given, o)
	same(t, what+", again", impl.OpRight(given), want)
}

func wrongOpKinds() []int64 {
	return []int64{0, 5, 6, -1, -2, -3, -4, 257, 258, 259, 260, 1<<32 + 1, 1<<32 + 3, math.MinInt64, math.MinInt64 + 1, math.MaxInt64}
}

func TestOpRight(t *testing.T) {
	for _, name := range rightNames() {
		for _, to := range rightNames() {
			for _, o := range rightOps(name, to) {
				checkOpRight(t, o, true)
			}
		}
	}
	for _, size := range []int{0, 1, 19999, 20000, 20001, 20002, 40000} {
		checkOpRight(t, impl.Op{Kind: impl.OpWrite, Name: "a", Text: letters(size)}, size <= 20000)
	}
}

// wrongOps are not right, of a file of that name.
func wrongOps(name string) []impl.Op {
	var l []impl.Op
	for _, kind := range wrongOpKinds() {
		l = append(l, impl.Op{Kind: kind, Name: name}, impl.Op{Kind: kind, Name: name, To: "a"}, impl.Op{Kind: kind, Name: name, Text: "a"})
	}
	for _, none := range wrongNames() {
		l = append(l, rightOps(none, "a")...)
		l = append(l, impl.Op{Kind: impl.OpRename, Name: name, To: none})
	}
	for _, to := range []string{"a", name, "0", " ", strings.Repeat("a", impl.MaxBytes+1)} {
		l = append(l, impl.Op{Kind: impl.OpWrite, Name: name, To: to}, impl.Op{Kind: impl.OpWrite, Name: name, To: to, Text: "x"},
			impl.Op{Kind: impl.OpSync, Name: name, To: to}, impl.Op{Kind: impl.OpRemove, Name: name, To: to})
	}
	for _, text := range []string{"x", "\x00", letters(impl.MaxBytes), letters(impl.MaxBytes + 1)} {
		l = append(l, impl.Op{Kind: impl.OpSync, Name: name, Text: text}, impl.Op{Kind: impl.OpRemove, Name: name, Text: text},
			impl.Op{Kind: impl.OpRename, Name: name, To: "a", Text: text}, impl.Op{Kind: impl.OpRename, Name: name, To: name, Text: text})
	}
	return append(l, impl.Op{}, impl.Op{Kind: impl.OpWrite, Name: name, Text: letters(impl.MaxBytes + 1)})
}

func TestOpsThatAreNotRight(t *testing.T) {
	for _, o := range wrongOps("f000") {
		checkOpRight(t, o, false)
	}
}

func TestDriveDoRefusesOpsThatAreNotRight(t *testing.T) {
	drives := []impl.Drive{{}, someFiles(3), someFiles(60), wrongDrives()[0], wrongDrives()[1]}
	for _, d := range drives {
		for _, name := range []string{"f000", "f002", "none"} {
			for _, o := range wrongOps(name) {
				checkDo(t, d, o)
				got := impl.DriveDo(d, o)
				same(t, "code", got.Code, impl.ErrForm)
				sameDrive(t, "nothing beside it", got.Drive, impl.Drive{})
			}
		}
	}
}

type doIn struct {
	d impl.Drive
	o impl.Op
}

func TestDriveDoTellsTheFirstFaultOfWriting(t *testing.T) {
	right := func() doIn {
		return doIn{someFiles(59), impl.Op{Kind: impl.OpWrite, Name: "f001", Text: "0123456789"}}
	}
	faults := []fault[doIn]{
		{impl.ErrForm, func(in *doIn) { in.d.Files[0].Synced = -1 }},
		{impl.ErrForm, func(in *doIn) { in.o.To = "f003" }},
		{impl.ErrThere, func(in *doIn) { in.o.Name = "f002" }},
		{impl.ErrFull, func(in *doIn) { in.d.Files = append(in.d.Files, impl.Stored{Name: "g"}) }},
		{impl.ErrFull, func(in *doIn) { in.o.Text += "!" }},
	}
	firstFault(right, faults, func(in doIn, code int64) {
		same(t, "code", checkDo(t, in.d, in.o).Code, code)
	})
}

func TestDriveDoTellsTheFirstFaultOfOthers(t *testing.T) {
	for _, o := range rightOps("f002", "f001")[1:] {
		faults := []fault[doIn]{
			{impl.ErrForm, func(in *doIn) { in.d.Room = -1 }},
			{impl.ErrForm, func(in *doIn) { in.o.Text = "x" }},
			{impl.ErrNone, func(in *doIn) { in.o.Name = "f003" }},
		}
		firstFault(func() doIn { return doIn{someFiles(60), o} }, faults, func(in doIn, code int64) {
			same(t, "code", checkDo(t, in.d, in.o).Code, code)
		})
	}
}

func TestDriveDoWritesByRoom(t *testing.T) {
	for _, count := range []int{0, 1, 2, 58, 59, 60} {
		for left := range 4 {
			d := someFiles(count)
			d.Room += int64(left) - 10
			for size := range 6 {
				o := impl.Op{Kind: impl.OpWrite, Name: "f001", Text: letters(size)}
				code := int64(impl.OK)
				if count == 60 || size > left {
					code = impl.ErrFull
				}
				same(t, fmt.Sprint(size, " bytes into ", left, " beside ", count), checkDo(t, d, o).Code, code)
			}
		}
	}
	wide := someFiles(60)
	wide.Room = impl.MaxRoom
	for _, text := range []string{"", "x", letters(impl.MaxBytes)} {
		same(t, "60 files with room", checkDo(t, wide, impl.Op{Kind: impl.OpWrite, Name: "g", Text: text}).Code, impl.ErrFull)
	}
	o := impl.Op{Kind: impl.OpWrite, Name: "a", Text: letters(impl.MaxBytes)}
	same(t, "a long text", checkDo(t, impl.Drive{Room: impl.MaxBytes}, o).Code, impl.OK)
	same(t, "a byte too long", checkDo(t, impl.Drive{Room: impl.MaxBytes - 1}, o).Code, impl.ErrFull)
	full := impl.Drive{Room: impl.MaxRoom}
	for i := range 5 {
		o.Name = fmt.Sprint("f", i)
		full = checkDo(t, full, o).Drive
	}
	same(t, "files", len(full.Files), 5)
	same(t, "no room at all", checkDo(t, full, impl.Op{Kind: impl.OpWrite, Name: "a", Text: "x"}).Code, impl.ErrFull)
	same(t, "no room, no text", checkDo(t, full, impl.Op{Kind: impl.OpWrite, Name: "a"}).Code, impl.OK)
}

func TestDriveDoWritesAtEachPlace(t *testing.T) {
	for _, count := range []int{0, 1, 2, 5, 59} {
		d := someFiles(count)
		for place := range count + 1 {
			name := fmt.Sprintf("f%03d", 2*place-1)
			if place == 0 {
				name = "a"
			}
			for _, text := range []string{"", "abc"} {
				checkDo(t, d, impl.Op{Kind: impl.OpWrite, Name: name, Text: text})
				got := impl.DriveDo(d, impl.Op{Kind: impl.OpWrite, Name: name, Text: text})
				want := impl.Drive{Files: slices.Insert(slices.Clone(d.Files), place, impl.Stored{Name: name, Text: text}), Room: d.Room}
				same(t, "code", got.Code, impl.OK)
				sameDrive(t, fmt.Sprint("at ", place, " of ", count), got.Drive, want)
			}
		}
		for i, f := range d.Files {
			same(t, fmt.Sprint(i, " is there"), checkDo(t, d, impl.Op{Kind: impl.OpWrite, Name: f.Name}).Code, impl.ErrThere)
		}
	}
}

func TestDriveDoOfNoSuchFile(t *testing.T) {
	for _, count := range []int{0, 1, 2, 3, 60} {
		d := someFiles(count)
		for _, name := range []string{"a", "f", "f0", "f00", "f0000", "f000-", "f001", "f003", "f119", "f99", "g", "z", strings.Repeat("f", 80)} {
			for _, to := range []string{"a", "f000", "f002", "z", name} {
				for _, o := range rightOps(name, to)[1:] {
					same(t, "code", checkDo(t, d, o).Code, impl.ErrNone)
				}
			}
		}
	}
}

func TestDriveDoSyncs(t *testing.T) {
	for _, count := range []int{1, 2, 3, 60} {
		for _, spare := range []int64{0, 10} {
			d := someFiles(count)
			d.Room += spare - 10
			for i, f := range d.Files {
				o := impl.Op{Kind: impl.OpSync, Name: f.Name}
				checkDo(t, d, o)
				got := impl.DriveDo(d, o)
				same(t, "code", got.Code, impl.OK)
				same(t, "synced", got.Drive.Files[i], impl.Stored{Name: f.Name, Text: f.Text, Synced: int64(len(f.Text))})
				sameDrive(t, "synced twice", checkDo(t, got.Drive, o).Drive, got.Drive)
			}
		}
	}
	empty := impl.Drive{Files: []impl.Stored{{Name: "a"}}}
	sameDrive(t, "an empty one", checkDo(t, empty, impl.Op{Kind: impl.OpSync, Name: "a"}).Drive, empty)
	long := impl.Drive{Files: []impl.Stored{{Name: "a", Text: letters(impl.MaxBytes)}}, Room: impl.MaxBytes}
	same(t, "a long one", impl.DriveDo(long, impl.Op{Kind: impl.OpSync, Name: "a"}).Drive.Files[0].Synced, impl.MaxBytes)
}

func TestDriveDoRenamesFromEachToEach(t *testing.T) {
	for _, count := range []int{1, 2, 3, 6} {
		d := someFiles(count)
		d.Room -= 10
		for i, f := range d.Files {
			// The odd names are between the files, the even ones theirs.
			for n := -1; n <= 2*count; n++ {
				to := fmt.Sprintf("f%03d", n)
				if n < 0 {
					to = "e"
				}
				checkDo(t, d, impl.Op{Kind: impl.OpRename, Name: f.Name, To: to})
				got := impl.DriveDo(d, impl.Op{Kind: impl.OpRename, Name: f.Name, To: to})
				same(t, "code", got.Code, impl.OK)
				renamedWell(t, d, i, to, got.Drive)
			}
		}
	}
}

// renamedWell asks for the file of the new name, and for all others but that whose name it was, in their order.
func renamedWell(t *testing.T, d impl.Drive, at int, to string, got impl.Drive) {
	t.Helper()
	f, want := d.Files[at], map[string]impl.Stored{}
	for i, other := range d.Files {
		if i != at && other.Name != to {
			want[other.Name] = other
		}
	}
	want[to] = impl.Stored{Name: to, Text: f.Text, Synced: f.Synced}
	sameDrive(t, f.Name+" to "+to, got, inOrder(want, d.Room))
}

func TestDriveDoRenamesOnAFullDrive(t *testing.T) {
	d := someFiles(60)
	d.Room -= 10
	for _, i := range []int{0, 1, 29, 30, 58, 59} {
		for _, to := range []string{"a", "f000", "f001", "f002", "f058", "f059", "f060", "f061", "f116", "f118", "z", d.Files[i].Name} {
			o := impl.Op{Kind: impl.OpRename, Name: d.Files[i].Name, To: to}
			same(t, "code", checkDo(t, d, o).Code, impl.OK)
			renamedWell(t, d, i, to, impl.DriveDo(d, o).Drive)
		}
	}
}

func TestDriveDoRenamesOntoItself(t *testing.T) {
	for _, count := range []int{1, 2, 3, 60} {
		d := someFiles(count)
		for _, f := range d.Files {
			o := impl.Op{Kind: impl.OpRename, Name: f.Name, To: f.Name}
			same(t, "code", checkDo(t, d, o).Code, impl.OK)
			sameDrive(t, "onto itself", impl.DriveDo(d, o).Drive, d)
		}
	}
}

func TestDriveDoRemoves(t *testing.T) {
	for _, count := range []int{1, 2, 3, 60} {
		d := someFiles(count)
		for i, f := range d.Files {
			o := impl.Op{Kind: impl.OpRemove, Name: f.Name}
			checkDo(t, d, o)
			got := impl.DriveDo(d, o)
			same(t, "code", got.Code, impl.OK)
			want := impl.Drive{Files: slices.Delete(slices.Clone(d.Files), i, i+1), Room: d.Room}
			sameDrive(t, fmt.Sprint(i, " of ", count), got.Drive, want)
			same(t, "gone", checkDo(t, got.Drive, o).Code, impl.ErrNone)
		}
	}
}

func TestDriveReadNames(t *testing.T) {
	drives := []impl.Drive{{}, someFiles(1), someFiles(2), someFiles(3), someFiles(60), {Files: []impl.Stored{{Name: "f000"}, {Name: "f002"}}}}
	for _, d := range drives {
		for _, f := range d.Files {
			checkDriveRead(t, d, f.Name)
			same(t, f.Name, impl.DriveRead(d, f.Name), impl.DataOut{Text: f.Text})
		}
		for _, name := range append(wrongNames(), "a", "f", "f0", "f00", "f0000", "f001", "f000-", "g", "z") {
			checkDriveRead(t, d, name)
			code := int64(impl.ErrNone)
			if len(name) > impl.MaxBytes {
				code = impl.ErrSize
			}
			same(t, "code", impl.DriveRead(d, name), impl.DataOut{Code: code})
		}
	}
}

func TestDriveReadLooksForLongNamesFirst(t *testing.T) {
	for _, d := range append(wrongDrives(), impl.Drive{}, someFiles(3)) {
		for _, size := range []int{impl.MaxBytes - 1, impl.MaxBytes, impl.MaxBytes + 1, impl.MaxBytes + 2, 2 * impl.MaxBytes} {
			code := int64(impl.ErrNone)
			if size > impl.MaxBytes {
				code = impl.ErrSize
			} else if !wantDriveRight(d) {
				code = impl.ErrForm
			}
			for _, name := range []string{strings.Repeat("f", size), letters(size)} {
				checkDriveRead(t, d, name)
				same(t, fmt.Sprint(size, " bytes"), impl.DriveRead(d, name), impl.DataOut{Code: code})
			}
		}
	}
}

func TestDriveNames(t *testing.T) {
	for _, count := range []int{0, 1, 2, 3, 59, 60} {
		d := someFiles(count)
		checkNames(t, d)
		got := impl.DriveNames(d)
		same(t, "count", len(got), count)
		for i, name := range got {
			same(t, "name", name, fmt.Sprintf("f%03d", 2*i))
		}
	}
	same(t, "none of 61", len(impl.DriveNames(someFiles(61))), 0)
	r := rand.New(rand.NewSource(102))
	for range 100 {
		d := drawnDrive(r)
		checkNames(t, d)
		same(t, "rising", slices.IsSorted(impl.DriveNames(d)), true)
	}
}

// staysWhenThePowerGoes is promise 12, file by file.
func staysWhenThePowerGoes(t *testing.T, d impl.Drive, keep []int64) {
	t.Helper()
	got := impl.DriveCrash(d, keep)
	same(t, "right", impl.DriveRight(got), true)
	same(t, "room", got.Room, d.Room)
	same(t, "files", len(got.Files), len(d.Files))
	for i, f := range got.Files {
		before := d.Files[i]
		same(t, "name", f.Name, before.Name)
		same(t, "at least what is synced", strings.HasPrefix(f.Text, before.Text[:before.Synced]), true)
		same(t, "the first bytes", strings.HasPrefix(before.Text, f.Text), true)
		same(t, "all synced", f.Synced, int64(len(f.Text)))
	}
	sameDrive(t, "the power goes again", impl.DriveCrash(got, keep), got)
}

// Promise 12.
func TestSyncedBytesStayWhenThePowerGoes(t *testing.T) {
	r := rand.New(rand.NewSource(103))
	for range 400 {
		d := drawnDrive(r)
		for range 4 {
			keep := drawnKeep(r, d)
			checkCrash(t, d, keep)
			staysWhenThePowerGoes(t, d, keep)
		}
		staysWhenThePowerGoes(t, d, nil)
	}
}

// Promise 12: what one op has synced is there behind any others that do not name it, wherever the power goes.
func TestOpsKeepDrivesRight(t *testing.T) {
	r := rand.New(rand.NewSource(104))
	for range 150 {
		d := drawnDrive(r)
		for range 40 {
			o := drawnOp(r, d)
			if r.Intn(10) == 0 {
				wrong := wrongOps(o.Name)
				o = wrong[r.Intn(len(wrong))]
			}
			out := checkDo(t, d, o)
			if out.Code != impl.OK {
				continue
			}
			got := impl.DriveDo(d, o).Drive
			same(t, "right", impl.DriveRight(got), true)
			leavesOthers(t, d, o, got)
			staysWhenThePowerGoes(t, got, drawnKeep(r, got))
			d = got
			if r.Intn(15) == 0 {
				d = impl.DriveCrash(d, drawnKeep(r, d))
			}
		}
	}
}

// leavesOthers asks for every file that the op does not name, as it was, and for no new one.
func leavesOthers(t *testing.T, d impl.Drive, o impl.Op, got impl.Drive) {
	t.Helper()
	others := func(d impl.Drive) []impl.Stored {
		return slices.DeleteFunc(slices.Clone(d.Files), func(f impl.Stored) bool { return f.Name == o.Name || f.Name == o.To })
	}
	same(t, "the others", slices.Equal(others(got), others(d)), true)
	same(t, "room", got.Room, d.Room)
}

func TestAFileIsPutSafely(t *testing.T) {
	d := someFiles(3)
	d.Room = impl.MaxRoom
	text := letters(5000)
	for _, o := range []impl.Op{{Kind: impl.OpWrite, Name: "t-0-a", Text: text}, {Kind: impl.OpSync, Name: "t-0-a"},
		{Kind: impl.OpRename, Name: "t-0-a", To: "f002"}} {
		d = checkDo(t, d, o).Drive
		d = impl.DriveDo(impl.Drive{Files: d.Files, Room: d.Room}, impl.Op{Kind: impl.OpSync, Name: "f000"}).Drive
	}
	got := impl.DriveCrash(d, nil)
	same(t, "files", len(got.Files), 3)
	same(t, "its text", impl.DriveRead(got, "f002"), impl.DataOut{Text: text})
	same(t, "its name ahead", impl.DriveRead(got, "t-0-a"), impl.DataOut{Code: impl.ErrNone})
}

func TestDriveCrashByNumbers(t *testing.T) {
	for _, size := range []int{0, 1, 9, impl.MaxBytes} {
		for _, synced := range slices.Compact([]int{0, size / 2, size}) {
			left := int64(size - synced)
			for _, n := range append(edges(left), 2, int64(size), int64(size)+1) {
				stays := synced + int(min(max(n, 0), left))
				for _, at := range []int{0, 1, 2} {
					d := withFile(3, at, impl.Stored{Text: letters(size), Synced: int64(synced)})
					keep := []int64{0, 0, 0}
					keep[at] = n
					checkCrash(t, d, keep)
					want := impl.Stored{Name: d.Files[at].Name, Text: letters(size)[:stays], Synced: int64(stays)}
					same(t, fmt.Sprint(n, " more than ", synced, " of ", size), impl.DriveCrash(d, keep).Files[at], want)
				}
			}
		}
	}
}

func TestDriveCrashByPlaces(t *testing.T) {
	for _, count := range []int{0, 1, 2, 3, 60} {
		d := someFiles(count)
		for _, places := range []int{0, 1, 2, 3, 4, 59, 60, 61, 399, 400} {
			for _, n := range []int64{-1, 0, 1, 2, 1000, math.MinInt64, math.MaxInt64} {
				keep := slices.Repeat([]int64{n}, places)
				checkCrash(t, d, keep)
				staysWhenThePowerGoes(t, d, keep)
			}
		}
		sameDrive(t, "nil and none", impl.DriveCrash(d, nil), impl.DriveCrash(d, []int64{}))
		// One number a place: none of them goes to another file.
		rising := make([]int64, count)
		for i := range rising {
			rising[i] = int64(i / 2)
		}
		checkCrash(t, d, rising)
	}
}

func TestDriveCrashOfLongLists(t *testing.T) {
	for _, d := range append(wrongDrives(), impl.Drive{}, impl.Drive{Room: 7}, someFiles(3), someFiles(60)) {
		for _, places := range []int{401, 402, 1000} {
			keep := make([]int64, places)
			checkCrash(t, d, keep)
			sameDrive(t, fmt.Sprint(places, " places"), impl.DriveCrash(d, keep), impl.Drive{})
		}
		checkCrash(t, d, make([]int64, 400))
	}
	same(t, "400 places", len(impl.DriveCrash(someFiles(3), make([]int64, 400)).Files), 3)
}

func TestDriveRotByPlaces(t *testing.T) {
	for _, size := range []int{0, 1, 2, 9, impl.MaxBytes} {
		for _, place := range []int{0, 1, 2} {
			d := withFile(3, place, impl.Stored{Text: letters(size), Synced: int64(size / 2)})
			name := d.Files[place].Name
			for _, at := range append(edges(int64(size)), int64(size)/2) {
				checkRot(t, d, name, at, 129)
				got := impl.DriveRot(d, name, at, 129)
				if at < 0 || at >= int64(size) {
					sameDrive(t, fmt.Sprint("at ", at, " of ", size), got, d)
					continue
				}
				same(t, "synced", got.Files[place].Synced, int64(size/2))
				same(t, "the byte", got.Files[place].Text[at], letters(size)[at]^129)
				same(t, "right", impl.DriveRight(got), true)
				sameDrive(t, "twice", impl.DriveRot(got, name, at, 129), d)
			}
		}
	}
}

func TestDriveRotByTurns(t *testing.T) {
	d := someFiles(3)
	d.Files[1].Text = "\x00\xffabc"
	for turn := int64(-1); turn <= 257; turn++ {
		for at := range int64(5) {
			checkRot(t, d, "f002", at, turn)
		}
	}
	for _, turn := range append(edges(255), 256, 511, 512, -255, -256) {
		checkRot(t, d, "f002", 1, turn)
		if turn < 0 || turn > 255 {
			sameDrive(t, fmt.Sprint("turn ", turn), impl.DriveRot(d, "f002", 1, turn), d)
		}
	}
	sameDrive(t, "turned by nothing", impl.DriveRot(d, "f002", 1, 0), d)
	same(t, "all bits", impl.DriveRot(d, "f002", 1, 255).Files[1].Text, "\x00\x00abc")
	same(t, "one bit", impl.DriveRot(d, "f002", 0, 1).Files[1].Text, "\x01\xffabc")
}

func TestDriveRotByNames(t *testing.T) {
	for _, d := range append(wrongDrives(), impl.Drive{}, impl.Drive{Room: 7}, someFiles(1), someFiles(3), someFiles(60)) {
		for _, name := range append(wrongNames(), "a", "f0", "f00", "f0000", "f001", "g", letters(impl.MaxBytes), letters(impl.MaxBytes+1)) {
			checkRot(t, d, name, 0, 1)
			if len(name) > impl.MaxBytes {
				sameDrive(t, "a long name", impl.DriveRot(d, name, 0, 1), impl.Drive{})
			} else if wantDriveRight(d) {
				sameDrive(t, "no such name", impl.DriveRot(d, name, 0, 1), d)
			}
		}
		for _, f := range d.Files {
			checkRot(t, d, f.Name, int64(len(f.Text))-1, 255)
		}
	}
}

func TestDriveRotOfDrawnOnes(t *testing.T) {
	r := rand.New(rand.NewSource(105))
	for range 500 {
		d := drawnDrive(r)
		name := drawnNameOn(r, d)
		size := max(len(byName(d)[name].Text), 1)
		checkRot(t, d, name, int64(r.Intn(size+2)-1), int64(r.Intn(258)-1))
		got := impl.DriveRot(d, name, int64(r.Intn(size)), int64(r.Intn(256)))
		same(t, "right", impl.DriveRight(got), true)
		leavesOthers(t, d, impl.Op{Name: name}, got)
	}
}

func TestDrivesSideBySide(t *testing.T) {
	d := someFiles(20)
	const workers = 16
	var done [workers]impl.DriveOut
	var crashed, rotten [workers]impl.Drive
	var group sync.WaitGroup
	for i := range workers {
		group.Go(func() {
			done[i] = impl.DriveDo(d, rightOps(d.Files[i].Name, "new")[i%4])
			crashed[i] = impl.DriveCrash(d, []int64{1, int64(i), 3})
			rotten[i] = impl.DriveRot(d, d.Files[i].Name, int64(i), int64(i))
		})
	}
	group.Wait()
	for i := range workers {
		want := wantDo(d, rightOps(d.Files[i].Name, "new")[i%4])
		same(t, "code", done[i].Code, want.Code)
		sameDrive(t, "DriveDo", done[i].Drive, want.Drive)
		sameDrive(t, "DriveCrash", crashed[i], wantCrash(d, []int64{1, int64(i), 3}))
		sameDrive(t, "DriveRot", rotten[i], wantRot(d, d.Files[i].Name, int64(i), int64(i)))
	}
}
