package tests

import (
	"fmt"
	"math"
	"math/rand"
	"regexp"
	"slices"
	"strings"
	"sync"
	"testing"

	"loop.example/g00259/impl"
)

// objectPattern is chapter 10's, but for how a name may not begin.
var objectPattern = regexp.MustCompile(`^[a-z][a-z0-9-]{0,59}$`)

func wantObjectRight(name string) bool {
	return objectPattern.MatchString(name) && !strings.HasPrefix(name, "t-")
}

func wantCodeRight(k int64, m int64) bool {
	return slices.Contains(rightCodes(), code{k, m})
}

func wantArrayRight(a impl.Array) bool {
	if !wantCodeRight(a.K, a.M) || len(a.Drives) != int(a.K+a.M) {
		return false
	}
	return !slices.ContainsFunc(a.Drives, func(d impl.Drive) bool { return !wantDriveRight(d) })
}

func wantFrameRight(f impl.Frame) bool {
	if !wantCodeRight(f.K, f.M) || f.Index < 0 || f.Index >= f.K+f.M || f.Size < 0 || f.Size > 12000 {
		return false
	}
	size := f.Size / f.K
	if size*f.K < f.Size {
		size++
	}
	return len(f.Whole) == 32 && int64(len(f.Text)) == size
}

// sealed has the digest of all behind what stands ahead of the Text.
func sealed(head string, text string) string {
	return head + sha(head+text) + text
}

// frameBytes takes frames that are not right, too.
func frameBytes(f impl.Frame) string {
	return sealed("F"+varint(f.K)+varint(f.M)+varint(f.Index)+varint(f.Size)+f.Whole, f.Text)
}

func wantFrameRead(text string) impl.FrameOut {
	if len(text) > 20000 {
		return impl.FrameOut{Code: impl.ErrSize}
	}
	none := impl.FrameOut{Code: impl.ErrSyntax}
	if text == "" || text[0] != 70 {
		return none
	}
	var n [4]int64
	at := 1
	for i := range n {
		number, size, ok := shortest(text[at:])
		if !ok {
			return none
		}
		n[i] = number
		at += size
	}
	if len(text) < at+64 {
		return none
	}
	f := impl.Frame{K: n[0], M: n[1], Index: n[2], Size: n[3], Whole: text[at : at+32], Text: text[at+64:]}
	if !wantFrameRight(f) || sha(text[:at+32]+f.Text) != text[at+32:at+64] {
		return none
	}
	return impl.FrameOut{Frame: f}
}

// wantFrameOf is the frame of a drive for a name, if there is one.
func wantFrameOf(a impl.Array, drive int, name string) (impl.Frame, bool) {
	file, there := byName(a.Drives[drive])[name]
	got := wantFrameRead(file.Text)
	f := got.Frame
	return f, there && got.Code == impl.OK && f.K == a.K && f.M == a.M && f.Index == int64(drive)
}

// wantCounting holds each drive's frame against all, and tells which count, and the text that they make.
func wantCounting(a impl.Array, name string) ([]impl.Shard, string, bool) {
	frames, are := make([]impl.Frame, len(a.Drives)), make([]bool, len(a.Drives))
	for i := range a.Drives {
		frames[i], are[i] = wantFrameOf(a, i, name)
	}
	for i, f := range frames {
		shards, count := make([]impl.Shard, len(frames)), int64(0)
		for j, g := range frames {
			if are[i] && are[j] && g.Size == f.Size && g.Whole == f.Whole {
				shards[j] = impl.Shard{Have: true, Text: g.Text}
				count++
			}
		}
		if count < a.K {
			continue
		}
		if text := impl.Decode(a.K, a.M, f.Size, shards).Text; sha(text) == f.Whole {
			return shards, text, true
		}
	}
	return make([]impl.Shard, len(frames)), "", false
}

func hasFile(d impl.Drive, name string) bool {
	return slices.Contains(namesOf(d), name)
}

func wantObjectGet(a impl.Array, name string) impl.DataOut {
	if len(name) > 20000 {
		return impl.DataOut{Code: impl.ErrSize}
	}
	if !wantArrayRight(a) || !wantObjectRight(name) {
		return impl.DataOut{Code: impl.ErrForm}
	}
	if !slices.ContainsFunc(a.Drives, func(d impl.Drive) bool { return hasFile(d, name) }) {
		return impl.DataOut{Code: impl.ErrNone}
	}
	_, text, ok := wantCounting(a, name)
	if !ok {
		return impl.DataOut{Code: impl.ErrLost}
	}
	return impl.DataOut{Text: text}
}

func wantStates(a impl.Array, name string) []int64 {
	if !wantArrayRight(a) || !wantObjectRight(name) {
		return nil
	}
	var states []int64
	counting, _, _ := wantCounting(a, name)
	for i, d := range a.Drives {
		switch {
		case counting[i].Have:
			states = append(states, 0)
		case !hasFile(d, name):
			states = append(states, 1)
		default:
			states = append(states, 2)
		}
	}
	return states
}

func wantObjectNames(a impl.Array) []string {
	names := map[string]bool{}
	for _, d := range a.Drives {
		for _, name := range namesOf(d) {
			names[name] = wantObjectRight(name)
		}
	}
	var l []string
	for name, is := range names {
		if is && wantArrayRight(a) {
			l = append(l, name)
		}
	}
	slices.Sort(l)
	return l
}

// frameFor is the bytes of the frame that the drive of that number has of a text.
func frameFor(c code, drive int, text string) string {
	return frameBytes(frameWith(c, drive, text))
}

func frameWith(c code, drive int, text string) impl.Frame {
	return impl.Frame{K: c.k, M: c.m, Index: int64(drive), Size: int64(len(text)), Whole: sha(text), Text: wantShards(c, text)[drive]}
}

func framesFor(c code, text string) []string {
	var l []string
	for i, shard := range wantShards(c, text) {
		l = append(l, frameBytes(impl.Frame{K: c.k, M: c.m, Index: int64(i), Size: int64(len(text)), Whole: sha(text), Text: shard}))
	}
	return l
}

// wantWrite are the steps of one drive ahead of the renaming.
func wantWrite(d impl.Drive, drive int, file string, frame string) []impl.Step {
	var l []impl.Step
	if hasFile(d, file) {
		l = append(l, impl.Step{Drive: int64(drive), Op: impl.Op{Kind: 4, Name: file}})
	}
	l = append(l, impl.Step{Drive: int64(drive), Op: impl.Op{Kind: 1, Name: file, Text: frame}})
	return append(l, impl.Step{Drive: int64(drive), Op: impl.Op{Kind: 2, Name: file}})
}

func wantPut(a impl.Array, tag int64, name string, text string) []impl.Step {
	if !wantArrayRight(a) || tag < 0 || tag > 9 || !wantObjectRight(name) || len(text) > 12000 {
		return nil
	}
	var l []impl.Step
	file := fmt.Sprintf("t-%d-%s", tag, name)
	frames := framesFor(code{a.K, a.M}, text)
	for i, d := range a.Drives {
		l = append(l, wantWrite(d, i, file, frames[i])...)
	}
	for i := range a.Drives {
		l = append(l, impl.Step{Drive: int64(i), Op: impl.Op{Kind: 3, Name: file, To: name}})
	}
	return l
}

func wantMend(a impl.Array, tag int64, name string) []impl.Step {
	if !wantArrayRight(a) || tag < 0 || tag > 9 || !wantObjectRight(name) {
		return nil
	}
	counting, text, ok := wantCounting(a, name)
	if !ok {
		return nil
	}
	var l []impl.Step
	file := fmt.Sprintf("t-%d-%s", tag, name)
	frames := framesFor(code{a.K, a.M}, text)
	for i, d := range a.Drives {
		if !counting[i].Have {
			l = append(l, wantWrite(d, i, file, frames[i])...)
			l = append(l, impl.Step{Drive: int64(i), Op: impl.Op{Kind: 3, Name: file, To: name}})
		}
	}
	return l
}

func wantStepsDo(a impl.Array, l []impl.Step, n int64) impl.ArrayOut {
	if len(l) > 400 {
		return impl.ArrayOut{Code: impl.ErrSize}
	}
	noDrive := func(s impl.Step) bool { return s.Drive < 0 || s.Drive >= int64(len(a.Drives)) }
	if !wantArrayRight(a) || slices.ContainsFunc(l, noDrive) {
		return impl.ArrayOut{Code: impl.ErrForm}
	}
	out := impl.ArrayOut{Array: copiedArray(a)}
	for i, s := range l {
		if int64(i) >= n {
			break
		}
		done := wantDo(out.Array.Drives[s.Drive], s.Op)
		if done.Code != impl.OK {
			out.Code = done.Code
			break
		}
		out.Array.Drives[s.Drive] = done.Drive
		out.Done++
	}
	return out
}

func copiedArray(a impl.Array) impl.Array {
	out := impl.Array{K: a.K, M: a.M, Drives: slices.Clone(a.Drives)}
	for i, d := range out.Drives {
		out.Drives[i].Files = slices.Clone(d.Files)
	}
	return out
}

// withFileOn has that file on the drive, all of it synced.
func withFileOn(a impl.Array, drive int, name string, text string) impl.Array {
	out := copiedArray(a)
	files := byName(out.Drives[drive])
	files[name] = impl.Stored{Text: text, Synced: int64(len(text))}
	out.Drives[drive] = inOrder(files, out.Drives[drive].Room)
	return out
}

func withoutFileOn(a impl.Array, drive int, name string) impl.Array {
	out := copiedArray(a)
	files := byName(out.Drives[drive])
	delete(files, name)
	out.Drives[drive] = inOrder(files, out.Drives[drive].Room)
	return out
}

func emptyArray(c code) impl.Array {
	a := impl.Array{K: c.k, M: c.m}
	for range c.k + c.m {
		a.Drives = append(a.Drives, impl.Drive{Room: impl.MaxRoom})
	}
	return a
}

// striped has just the frames of a text, of that name.
func striped(c code, name string, text string) impl.Array {
	a := emptyArray(c)
	for i, frame := range framesFor(c, text) {
		a = withFileOn(a, i, name, frame)
	}
	return a
}

// sameArray takes no drives and nil for the same, as chapter 1 does.
func sameArray(t *testing.T, what string, got impl.Array, want impl.Array) {
	t.Helper()
	same(t, what+": K", got.K, want.K)
	same(t, what+": M", got.M, want.M)
	same(t, what+": drives", len(got.Drives), len(want.Drives))
	for i := range want.Drives {
		sameDrive(t, fmt.Sprint(what, ": drive ", i), got.Drives[i], want.Drives[i])
	}
}

func sameList[T comparable](t *testing.T, what string, got []T, want []T) {
	t.Helper()
	if !slices.Equal(got, want) {
		t.Fatalf("%s: got %s, want %s", what, shown(got), shown(want))
	}
}

// array has drives behind its last one in the list's room, which a call may not change, either.
func (m *softMemory) array(a impl.Array) impl.Array {
	room := make([]impl.Drive, len(a.Drives)+2)
	for i := range room {
		room[i] = impl.Drive{Room: 77}
	}
	for i, d := range a.Drives {
		room[i] = m.drive(d)
	}
	m.clears = append(m.clears, func() { clear(room) })
	return impl.Array{K: a.K, M: a.M, Drives: room[:len(a.Drives)]}
}

func (m *softMemory) steps(l []impl.Step) []impl.Step {
	room := make([]impl.Step, len(l)+2)
	for i, s := range l {
		room[i] = impl.Step{Drive: s.Drive, Op: m.op(s.Op)}
	}
	m.clears = append(m.clears, func() { clear(room) })
	return room[:len(l)]
}

func arrayUnchanged(t *testing.T, what string, given impl.Array, a impl.Array) {
	t.Helper()
	sameArray(t, what+": the array handed in", given, a)
	for i, d := range a.Drives {
		driveUnchanged(t, what, given.Drives[i], d)
	}
	for _, d := range given.Drives[len(a.Drives):cap(given.Drives)] {
		sameDrive(t, what+": behind the drives", d, impl.Drive{Room: 77})
	}
}

// An asking is a call of an array, what is asked of its answer, and how the answer is made another one.
type asking[T any] struct {
	what   string
	array  impl.Array
	memory *softMemory
	call   func(impl.Array) T
	told   func(what string, got T)
	wreck  func(T)
}

// twice asks that each of two calls tells what is wanted, that the array is not changed, and that no answer shares
// memory with what was handed in, nor with the other answer.
func (q asking[T]) twice(t *testing.T) {
	t.Helper()
	given := q.memory.array(q.array)
	got := q.call(given)
	arrayUnchanged(t, q.what, given, q.array)
	again := q.call(given)
	arrayUnchanged(t, q.what+", again", given, q.array)
	q.memory.spoil()
	q.told(q.what, got)
	q.wreck(got)
	q.told(q.what+", again", again)
}

func checkArrayRight(t *testing.T, what string, a impl.Array, want bool) {
	t.Helper()
	same(t, what+": as the test has it", wantArrayRight(a), want)
	asking[bool]{what, a, &softMemory{}, impl.ArrayRight, func(what string, got bool) { same(t, what, got, want) }, func(bool) {}}.twice(t)
}

func checkObjectGet(t *testing.T, a impl.Array, name string) impl.DataOut {
	t.Helper()
	want, m := wantObjectGet(a, name), &softMemory{}
	asked := m.text(name)
	what := fmt.Sprintf("ObjectGet of %d and %d, %q", a.K, a.M, short(name))
	call := func(a impl.Array) impl.DataOut { return impl.ObjectGet(a, asked) }
	asking[impl.DataOut]{what, a, m, call, func(what string, got impl.DataOut) { same(t, what, got, want) }, func(impl.DataOut) {}}.twice(t)
	return want
}

func checkStates(t *testing.T, a impl.Array, name string) []int64 {
	t.Helper()
	want, m := wantStates(a, name), &softMemory{}
	asked := m.text(name)
	what := fmt.Sprintf("ObjectStates of %d and %d, %q", a.K, a.M, short(name))
	call := func(a impl.Array) []int64 { return impl.ObjectStates(a, asked) }
	asking[[]int64]{what, a, m, call, func(what string, got []int64) { sameList(t, what, got, want) }, wrecked[int64]}.twice(t)
	return want
}

func wrecked[T any](l []T) {
	clear(l[:cap(l)])
}

func checkObjectNames(t *testing.T, a impl.Array) []string {
	t.Helper()
	want := wantObjectNames(a)
	what := fmt.Sprintf("ObjectNames of %d and %d", a.K, a.M)
	asking[[]string]{what, a, &softMemory{}, impl.ObjectNames, func(what string, got []string) { sameList(t, what, got, want) }, wrecked[string]}.twice(t)
	return want
}

func checkSteps(t *testing.T, what string, a impl.Array, m *softMemory, want []impl.Step, call func(impl.Array) []impl.Step) {
	t.Helper()
	told := func(what string, got []impl.Step) { sameList(t, what, got, want) }
	asking[[]impl.Step]{what, a, m, call, told, wrecked[impl.Step]}.twice(t)
}

func checkPut(t *testing.T, a impl.Array, tag int64, name string, text string) []impl.Step {
	t.Helper()
	want, m := wantPut(a, tag, name, text), &softMemory{}
	asked, put := m.text(name), m.text(text)
	what := fmt.Sprintf("PutSteps of %d and %d, tag %d, %q, %d bytes", a.K, a.M, tag, short(name), len(text))
	checkSteps(t, what, a, m, want, func(a impl.Array) []impl.Step { return impl.PutSteps(a, tag, asked, put) })
	return want
}

func checkMend(t *testing.T, a impl.Array, tag int64, name string) []impl.Step {
	t.Helper()
	want, m := wantMend(a, tag, name), &softMemory{}
	asked := m.text(name)
	what := fmt.Sprintf("MendSteps of %d and %d, tag %d, %q", a.K, a.M, tag, short(name))
	checkSteps(t, what, a, m, want, func(a impl.Array) []impl.Step { return impl.MendSteps(a, tag, asked) })
	return want
}

func checkStepsDo(t *testing.T, a impl.Array, l []impl.Step, n int64) impl.ArrayOut {
	t.Helper()
	want, m := wantStepsDo(a, l, n), &softMemory{}
	steps := m.steps(l)
	what := fmt.Sprintf("StepsDo of %d and %d, %d of %d steps", a.K, a.M, n, len(l))
	call := func(a impl.Array) impl.ArrayOut {
		got := impl.StepsDo(a, steps, n)
		sameList(t, what+": steps", steps, l)
		sameList(t, what+": behind the steps", steps[len(l):cap(steps)], make([]impl.Step, 2))
		return got
	}
	told := func(what string, got impl.ArrayOut) {
		same(t, what+": code", got.Code, want.Code)
		same(t, what+": done", got.Done, want.Done)
		sameArray(t, what, got.Array, want.Array)
	}
	asking[impl.ArrayOut]{what, a, m, call, told, func(out impl.ArrayOut) { driveByDrive(t, what, out.Array, want.Array) }}.twice(t)
	return want
}

// driveByDrive wrecks the files of one drive after the other: those of the others stay.
func driveByDrive(t *testing.T, what string, got impl.Array, want impl.Array) {
	t.Helper()
	for i := range got.Drives {
		wrecked(got.Drives[i].Files)
		for j := i + 1; j < len(got.Drives); j++ {
			sameDrive(t, what+": apart", got.Drives[j], want.Drives[j])
		}
	}
	wrecked(got.Drives)
}

func checkFrameRight(t *testing.T, what string, f impl.Frame, want bool) {
	t.Helper()
	same(t, what+": as the test has it", wantFrameRight(f), want)
	m, bytes := &softMemory{}, ""
	if want {
		bytes = frameBytes(f)
	}
	given := impl.Frame{K: f.K, M: f.M, Index: f.Index, Size: f.Size, Whole: m.text(f.Whole), Text: m.text(f.Text)}
	for range 2 {
		same(t, what, impl.FrameRight(given), want)
	}
	got, again := impl.FrameBytes(given), impl.FrameBytes(given)
	same(t, what+": the frame handed in", given, f)
	m.spoil()
	same(t, what+": bytes", got, bytes)
	same(t, what+": bytes, again", again, bytes)
	if want {
		same(t, what+": back", checkFrameRead(t, bytes), impl.FrameOut{Frame: f})
	}
}

// checkFrameRead also asks that a frame that is read has just these bytes.
func checkFrameRead(t *testing.T, text string) impl.FrameOut {
	t.Helper()
	what := fmt.Sprintf("FrameRead of %d bytes", len(text))
	want, m := wantFrameRead(text), &softMemory{}
	given := m.text(text)
	got, again := impl.FrameRead(given), impl.FrameRead(given)
	same(t, what+": text", given, text)
	m.spoil()
	same(t, what, got, want)
	same(t, what+", again", again, want)
	if got.Code == impl.OK {
		same(t, what+": bytes", impl.FrameBytes(got.Frame), text)
		same(t, what+": right", impl.FrameRight(got.Frame), true)
	}
	return want
}

// noFrame is of texts that are no frame's bytes, and are not too long.
func noFrame(t *testing.T, what string, text string) {
	t.Helper()
	checkFrameRead(t, text)
	same(t, what, impl.FrameRead(text), impl.FrameOut{Code: impl.ErrSyntax})
}

// doAll asks that all steps are done.
func doAll(t *testing.T, a impl.Array, l []impl.Step) impl.Array {
	t.Helper()
	got := impl.StepsDo(a, l, int64(len(l)))
	same(t, "all steps: code", got.Code, impl.OK)
	same(t, "all steps: done", got.Done, int64(len(l)))
	return got.Array
}

func putAll(t *testing.T, a impl.Array, name string, text string) impl.Array {
	t.Helper()
	return doAll(t, a, impl.PutSteps(a, 0, name, text))
}

func drawnCode(r *rand.Rand) code {
	l := rightCodes()
	return l[r.Intn(len(l))]
}

// drawnArray has some objects o0, o1 .. and files that are none, of tags, too; there is room for more.
func drawnArray(t *testing.T, r *rand.Rand, c code) impl.Array {
	t.Helper()
	a := emptyArray(c)
	for i, d := range a.Drives {
		files := byName(d)
		for range r.Intn(6) {
			name := drawnName(r)
			if r.Intn(3) == 0 {
				name = fmt.Sprintf("t-%d-%s", r.Intn(10), name[:min(len(name), 76)])
			}
			text := drawnText(r, r.Intn(60))
			files[name] = impl.Stored{Text: text, Synced: int64(r.Intn(len(text) + 1))}
		}
		if r.Intn(3) == 0 {
			files[fmt.Sprintf("t-%d-x", r.Intn(10))] = impl.Stored{Text: "left behind"}
		}
		a.Drives[i] = inOrder(files, impl.MaxRoom)
	}
	for i := range r.Intn(4) {
		a = putAll(t, a, fmt.Sprint("o", i), drawnText(r, r.Intn(100)))
	}
	return a
}

// objectSizes are those at which shards begin, and the greatest one.
func objectSizes(k int64) []int {
	return []int{0, 1, int(k) - 1, int(k), int(k) + 1, impl.MaxPack}
}

func TestStripeConstants(t *testing.T) {
	same(t, "ShardGood", impl.ShardGood, 0)
	same(t, "ShardNone", impl.ShardNone, 1)
	same(t, "ShardBad", impl.ShardBad, 2)
}

// ofCode is an array of a code that need not be right, with so many drives.
func ofCode(c code, count int) impl.Array {
	return impl.Array{K: c.k, M: c.m, Drives: emptyArray(code{int64(count), 0}).Drives}
}

func TestArrayRightByCodes(t *testing.T) {
	for _, c := range rightCodes() {
		sides := int(c.k + c.m)
		for _, count := range []int{0, 1, sides - 1, sides, sides + 1, 2 * sides, 15, 401} {
			checkArrayRight(t, fmt.Sprint(count, " drives by ", c), ofCode(c, count), count == sides)
		}
		checkArrayRight(t, "nil", impl.Array{K: c.k, M: c.m}, false)
	}
	for _, c := range wrongCodes() {
		counts := []int{0, 1, 14}
		if sides := c.k + c.m; sides > 0 && sides < 40 {
			counts = append(counts, int(sides))
		}
		for _, count := range counts {
			checkArrayRight(t, fmt.Sprint(count, " drives by ", c), ofCode(c, count), false)
		}
	}
	checkArrayRight(t, "the zero one", impl.Array{}, false)
}

func TestArrayRightByDrives(t *testing.T) {
	for _, c := range []code{{1, 0}, {2, 0}, {1, 1}, {2, 1}, {8, 6}} {
		for _, at := range somePlaces(int(c.k + c.m)) {
			for i, d := range wrongDrives() {
				a := emptyArray(c)
				a.Drives[at] = d
				checkArrayRight(t, fmt.Sprint("wrong drive ", i, " at ", at, " by ", c), a, false)
			}
			a := emptyArray(c)
			a.Drives[at] = someFiles(60)
			checkArrayRight(t, fmt.Sprint("many files at ", at, " by ", c), a, true)
			a.Drives[at] = impl.Drive{}
			checkArrayRight(t, fmt.Sprint("the zero drive at ", at, " by ", c), a, true)
		}
	}
	r := rand.New(rand.NewSource(111))
	for range 100 {
		a := drawnArray(t, r, drawnCode(r))
		checkArrayRight(t, "drawn", a, true)
		a.Drives[r.Intn(len(a.Drives))] = drawnDrive(r)
		checkArrayRight(t, "with another drive", a, true)
	}
}

// rightObjects are objects' names.
func rightObjects() []string {
	return []string{"a", "z", "t", "ta", "t0", "tt", "tt-", "a-", "at-", "s-a", "p-0", "u-a", "t0-x", "a0", strings.Repeat("a", 59),
		strings.Repeat("z", 60), "a" + strings.Repeat("-", 59), "t" + strings.Repeat("a", 59)}
}

// wrongObjects are names, and others, that no object has.
func wrongObjects() []string {
	l := []string{"t-", "t-a", "t--", "t-0", "t-0-x", "t-9-x", "t-10-x", strings.Repeat("a", 61), strings.Repeat("a", 62), strings.Repeat("a", 79),
		strings.Repeat("a", 80), "t-" + strings.Repeat("a", 58), "t-" + strings.Repeat("a", 59), "T-a", "t\x00", "t -", "a\n"}
	return append(l, wrongNames()...)
}

func TestObjectRight(t *testing.T) {
	check := func(name string, want bool) {
		t.Helper()
		same(t, fmt.Sprintf("%q, as the test has it", short(name)), wantObjectRight(name), want)
		m := &softMemory{}
		given := m.text(name)
		for range 2 {
			same(t, fmt.Sprintf("%q", short(name)), impl.ObjectRight(given), want)
			same(t, "name", given, name)
		}
	}
	for _, name := range rightObjects() {
		check(name, true)
	}
	for _, name := range wrongObjects() {
		check(name, false)
	}
	for size := range 130 {
		check(strings.Repeat("b", size), size >= 1 && size <= 60)
	}
	for b := range 256 {
		sign := string([]byte{byte(b)})
		letter := b >= 'a' && b <= 'z'
		check(sign, letter)
		check("a"+sign, letter || b >= '0' && b <= '9' || b == '-')
		check("t"+sign, letter || b >= '0' && b <= '9')
	}
}

// drawnFrame is right.
func drawnFrame(r *rand.Rand) impl.Frame {
	c := drawnCode(r)
	sizes := append(objectSizes(c.k), impl.MaxPack-1, r.Intn(300), r.Intn(impl.MaxPack+1))
	size := int64(sizes[r.Intn(len(sizes))])
	return impl.Frame{K: c.k, M: c.m, Index: r.Int63n(c.k + c.m), Size: size, Whole: drawnText(r, 32),
		Text: drawnText(r, int((size+c.k-1)/c.k))}
}

// Promise 13.
func TestRightFramesComeBack(t *testing.T) {
	r := rand.New(rand.NewSource(112))
	for _, c := range rightCodes() {
		for i := range int(c.k + c.m) {
			sizes := objectSizes(c.k)
			f := frameWith(c, i, drawnText(r, sizes[i%len(sizes)]))
			checkFrameRight(t, fmt.Sprint("frame ", i, " of ", c), f, true)
		}
	}
	for range 400 {
		f := drawnFrame(r)
		checkFrameRight(t, "drawn", f, true)
		same(t, "back", impl.FrameRead(impl.FrameBytes(f)), impl.FrameOut{Frame: f})
	}
}

func TestFrameKnown(t *testing.T) {
	f := impl.Frame{K: 2, M: 1, Index: 1, Size: 5, Whole: sha("hello"), Text: "lo\x00"}
	head := "F\x04\x02\x02\x0a" + sha("hello")
	want := head + sha(head+"lo\x00") + "lo\x00"
	same(t, "bytes", impl.FrameBytes(f), want)
	same(t, "read", impl.FrameRead(want), impl.FrameOut{Frame: f})
	long := impl.Frame{K: 8, M: 6, Index: 13, Size: 12000, Whole: letters(32), Text: letters(1500)}
	head = "F\x10\x0c\x1a\xc0\xbb\x01" + letters(32)
	same(t, "long bytes", impl.FrameBytes(long), head+sha(head+letters(1500))+letters(1500))
	empty := impl.Frame{K: 1, Whole: sha("")}
	head = "F\x02\x00\x00\x00" + sha("")
	same(t, "empty", impl.FrameBytes(empty), head+sha(head))
}

func TestFrameRightByFields(t *testing.T) {
	for _, c := range rightCodes() {
		right := frameWith(c, int(c.m)/2, letters(20))
		checkFrameRight(t, fmt.Sprint("right by ", c), right, true)
		for _, index := range append(edges(c.k+c.m-1), c.k-1, c.k, c.m) {
			f := right
			f.Index = index
			checkFrameRight(t, fmt.Sprint("index ", index, " by ", c), f, index >= 0 && index < c.k+c.m)
		}
		for _, size := range edges(impl.MaxPack) {
			f := right
			f.Size = size
			f.Text = letters(int(impl.ShardSize(c.k, min(max(size, 0), impl.MaxBytes))))
			checkFrameRight(t, fmt.Sprint("size ", size, " by ", c), f, size >= 0 && size <= 12000)
			if size >= 0 && size <= 12000 {
				checkTextSizes(t, f)
			}
		}
		for _, size := range []int{0, 1, 31, 32, 33, 64, impl.MaxBytes + 1} {
			f := right
			f.Whole = letters(size)
			checkFrameRight(t, fmt.Sprint("whole of ", size, " by ", c), f, size == 32)
		}
	}
}

// checkTextSizes takes a right frame.
func checkTextSizes(t *testing.T, f impl.Frame) {
	t.Helper()
	just := len(f.Text)
	for _, size := range []int{0, 1, just - 1, just, just + 1, int(f.Size), impl.MaxBytes + 1} {
		if size >= 0 {
			f.Text = letters(size)
			checkFrameRight(t, fmt.Sprint("text of ", size, " for ", f.Size, " by ", f.K), f, size == just)
		}
	}
}

func TestFrameRightByCodes(t *testing.T) {
	for _, c := range wrongCodes() {
		for _, size := range []int64{0, 1, 12, 840} {
			for _, index := range []int64{0, 1, c.k + c.m - 1} {
				f := impl.Frame{K: c.k, M: c.m, Index: index, Size: size, Whole: letters(32)}
				if c.k > 0 {
					f.Text = letters(int(min((size+c.k-1)/c.k, 840)))
				}
				checkFrameRight(t, fmt.Sprint("wrong ", c), f, false)
				noFrame(t, fmt.Sprint("frame of wrong ", c), frameBytes(f))
			}
		}
	}
	checkFrameRight(t, "the zero one", impl.Frame{}, false)
}

// changedBytes is a text with one byte changed, taken out, put in, or all from there on cut off, at each place.
func changedBytes(r *rand.Rand, text string) []string {
	var l []string
	for at := range len(text) {
		for _, turn := range []byte{1, 2, 128, 255, byte(1 + r.Intn(255))} {
			l = append(l, text[:at]+string([]byte{text[at] ^ turn})+text[at+1:])
		}
		l = append(l, text[:at]+text[at+1:], text[:at])
	}
	for at := range len(text) + 1 {
		for _, b := range []byte{0, 70, 128, byte(r.Intn(256))} {
			l = append(l, text[:at]+string([]byte{b})+text[at:])
		}
	}
	return append(l, text+"\x00\x00", text+text, text+drawnText(r, 64))
}

// Promise 13.
func TestFramesThatAreChanged(t *testing.T) {
	r := rand.New(rand.NewSource(113))
	frames := []impl.Frame{{K: 1, Whole: sha("")}, frameWith(code{2, 1}, 2, "hello"), frameWith(code{8, 6}, 13, letters(70)),
		frameWith(code{3, 3}, 0, letters(200)), frameWith(code{5, 0}, 4, strings.Repeat("\x00", 20)), frameWith(code{4, 2}, 1, strings.Repeat("F", 64))}
	for _, f := range frames {
		text := frameBytes(f)
		same(t, "unchanged", checkFrameRead(t, text), impl.FrameOut{Frame: f})
		for _, other := range changedBytes(r, text) {
			// A zero put in among zeros may yet be the same bytes.
			if other != text {
				noFrame(t, fmt.Sprintf("%d bytes, changed", len(text)), other)
			}
		}
	}
	long := frameFor(code{1, 2}, 1, letters(impl.MaxPack))
	for range 100 {
		at := r.Intn(len(long))
		noFrame(t, "a long one, changed", long[:at]+string([]byte{long[at] ^ byte(1+r.Intn(255))})+long[at+1:])
		noFrame(t, "a long one, cut", long[:at])
	}
}

// Promise 13.
func TestFrameReadOfDrawnBytes(t *testing.T) {
	r := rand.New(rand.NewSource(114))
	for range 1000 {
		text := drawnText(r, r.Intn(150))
		checkFrameRead(t, text)
		checkFrameRead(t, "F"+text)
		// With the digest that is asked for, much hangs on the numbers.
		head := "F" + varint(r.Int63n(10)) + varint(r.Int63n(8)) + varint(r.Int63n(16)-1) + varint(r.Int63n(20)-1)
		checkFrameRead(t, sealed(head+drawnText(r, 32), drawnText(r, r.Intn(8))))
		checkFrameRead(t, head+text)
	}
}

func TestFrameReadOfFirstBytes(t *testing.T) {
	head := varint(2) + varint(1) + varint(0) + varint(4) + sha("abcd")
	for b := range 256 {
		text := sealed(string([]byte{byte(b)})+head, "ab")
		if b == 70 {
			same(t, "right", checkFrameRead(t, text).Code, impl.OK)
			continue
		}
		noFrame(t, fmt.Sprint("first byte ", b), text)
	}
	noFrame(t, "empty", "")
	noFrame(t, "without the first byte", sealed(head, "ab"))
	noFrame(t, "the first byte twice", sealed("FF"+head, "ab"))
}

func TestFrameReadOfLongTexts(t *testing.T) {
	text := frameFor(code{1, 0}, 0, letters(impl.MaxPack))
	for _, size := range []int{impl.MaxBytes - 1, impl.MaxBytes, impl.MaxBytes + 1, impl.MaxBytes + 2, 2 * impl.MaxBytes} {
		want := impl.FrameOut{Code: impl.ErrSyntax}
		if size > impl.MaxBytes {
			want.Code = impl.ErrSize
		}
		for _, long := range []string{letters(size), strings.Repeat("F", size), strings.Repeat("\x00", size), text + letters(size-len(text))} {
			same(t, fmt.Sprint(size, " bytes"), checkFrameRead(t, long), want)
			same(t, fmt.Sprint(size, " bytes"), impl.FrameRead(long), want)
		}
	}
}

func TestFrameReadOfNumbersWithMoreBytes(t *testing.T) {
	numbers := []int64{2, 1, 1, 100}
	for i, n := range numbers {
		for extra := 1; extra <= 9; extra++ {
			digits := make([]string, 4)
			for j, other := range numbers {
				digits[j] = varint(other)
			}
			longest := []byte(varint(n))
			longest[len(longest)-1] |= 128
			digits[i] = string(longest) + strings.Repeat("\x80", extra-1) + "\x00"
			noFrame(t, fmt.Sprint("number ", i, " with ", extra, " more"), sealed("F"+strings.Join(digits, "")+letters(32), letters(50)))
		}
		for _, none := range []string{"\x80", strings.Repeat("\x80", 9) + "\x02", strings.Repeat("\xff", 10), strings.Repeat("\x80", 10) + "\x01"} {
			head := "F"
			for _, other := range numbers[:i] {
				head += varint(other)
			}
			noFrame(t, fmt.Sprintf("number %d of %q", i, none), sealed(head+none+letters(32), letters(50)))
			noFrame(t, "nothing behind", head+none)
		}
	}
}

func TestFrameReadOfOthersDigests(t *testing.T) {
	f := frameWith(code{3, 2}, 3, letters(30))
	text := frameBytes(f)
	from := len(text) - len(f.Text) - 32
	for at := from; at < from+32; at++ {
		for turn := 1; turn < 256; turn++ {
			noFrame(t, "one byte of the digest", text[:at]+string([]byte{text[at] ^ byte(turn)})+text[at+1:])
		}
	}
	head := text[:from]
	for _, digest := range []string{sha(f.Text), sha(head), sha(f.Text + head), sha(text), f.Whole, sha(""), strings.Repeat("\x00", 32)} {
		noFrame(t, "another digest", head+digest+f.Text)
	}
	noFrame(t, "the digest behind the Text", head+f.Text+sha(head+f.Text))
	noFrame(t, "a byte behind it", head+sha(head+f.Text+"x")+f.Text+"x")
}

func TestFrameReadOfSealedOnesThatAreNotRight(t *testing.T) {
	right := frameWith(code{3, 2}, 3, letters(30))
	same(t, "right", checkFrameRead(t, frameBytes(right)), impl.FrameOut{Frame: right})
	var l []impl.Frame
	change := func(make func(*impl.Frame)) {
		f := right
		make(&f)
		l = append(l, f)
	}
	for _, n := range []int64{-1, 5, 6, 1 << 32, math.MinInt64, math.MaxInt64} {
		change(func(f *impl.Frame) { f.Index = n })
	}
	for _, n := range []int64{-1, 0, 9, 256 + 3, 1<<32 + 3, math.MinInt64, math.MaxInt64} {
		change(func(f *impl.Frame) { f.K = n })
	}
	for _, n := range []int64{-1, 7, 256 + 2, 1<<32 + 2, math.MinInt64, math.MaxInt64} {
		change(func(f *impl.Frame) { f.M = n })
	}
	for _, n := range []int64{-1, 0, 27, 31, 12001, 20001, 1<<32 + 30, math.MinInt64, math.MaxInt64} {
		change(func(f *impl.Frame) { f.Size = n })
	}
	change(func(f *impl.Frame) { f.Size, f.Text = 12001, letters(4001) })
	change(func(f *impl.Frame) { f.Size, f.Text = -3, "" })
	for _, size := range []int{0, 9, 11, 30} {
		change(func(f *impl.Frame) { f.Text = letters(size) })
	}
	for _, f := range l {
		checkFrameRight(t, "not right", f, false)
		noFrame(t, "sealed, not right", frameBytes(f))
	}
}

// arraysThatAreNotRight have each a file x, on their first drive at least, and one fault.
func arraysThatAreNotRight() []impl.Array {
	return brokenArrays(striped(code{2, 1}, "x", "hello"))
}

// brokenArrays takes a right array of 2 and 1, whose drives have files each, and tells it with one fault.
func brokenArrays(right impl.Array) []impl.Array {
	var l []impl.Array
	for _, count := range []int{0, 1, 2, 4, 15} {
		a := copiedArray(right)
		a.Drives = slices.Concat(a.Drives, emptyArray(code{8, 6}).Drives)[:count]
		l = append(l, a)
	}
	for _, c := range []code{{0, 3}, {3, -1}, {-1, 4}, {9, 0}, {1, 7}, {math.MinInt64, 3}, {math.MaxInt64, 1}, {math.MaxInt64, math.MaxInt64}} {
		a := copiedArray(right)
		a.K, a.M = c.k, c.m
		l = append(l, a)
	}
	for at := range 3 {
		tight, torn, falling := copiedArray(right), copiedArray(right), copiedArray(right)
		tight.Drives[at].Room = 1
		torn.Drives[at].Files[0].Synced = -1
		falling.Drives[at].Files = append(falling.Drives[at].Files, impl.Stored{Name: "a"})
		l = append(l, tight, torn, falling)
	}
	return append(l, impl.Array{})
}

func TestArraysThatAreNotRight(t *testing.T) {
	for i, a := range arraysThatAreNotRight() {
		what := fmt.Sprint("wrong array ", i)
		checkArrayRight(t, what, a, false)
		for _, name := range []string{"x", "none", "", "t-0-x", strings.Repeat("x", 61), strings.Repeat("x", impl.MaxBytes)} {
			checkObjectGet(t, a, name)
			same(t, what+": got", impl.ObjectGet(a, name), impl.DataOut{Code: impl.ErrForm})
			checkStates(t, a, name)
			same(t, what+": states", len(impl.ObjectStates(a, name)), 0)
			checkPut(t, a, 0, name, "text")
			same(t, what+": put", len(impl.PutSteps(a, 0, name, "text")), 0)
			checkMend(t, a, 0, name)
			same(t, what+": mend", len(impl.MendSteps(a, 0, name)), 0)
		}
		long := strings.Repeat("x", impl.MaxBytes+1)
		checkObjectGet(t, a, long)
		same(t, what+": a long name", impl.ObjectGet(a, long), impl.DataOut{Code: impl.ErrSize})
		checkObjectNames(t, a)
		same(t, what+": names", len(impl.ObjectNames(a)), 0)
		for _, l := range [][]impl.Step{nil, syncSteps(1), {{Drive: -1}}} {
			for _, n := range []int64{-1, 0, 1} {
				same(t, what+": code", checkStepsDo(t, a, l, n).Code, impl.ErrForm)
			}
		}
		same(t, what+": many steps", checkStepsDo(t, a, syncSteps(401), 0).Code, impl.ErrSize)
	}
}

// everywhere has one more file on each drive.
func everywhere(a impl.Array, name string, text string) impl.Array {
	for i := range a.Drives {
		a = withFileOn(a, i, name, text)
	}
	return a
}

func TestObjectGetByNames(t *testing.T) {
	a := striped(code{2, 1}, "x", "hello")
	for _, name := range append(wrongObjects(), "y") {
		checkObjectGet(t, a, name)
		checkStates(t, a, name)
		checkPut(t, a, 0, name, "text")
		checkMend(t, a, 0, name)
		want, states := impl.DataOut{Code: impl.ErrForm}, 0
		if len(name) > impl.MaxBytes {
			want.Code = impl.ErrSize
		} else if name == "y" {
			want.Code, states = impl.ErrNone, 3
		}
		same(t, short(name), impl.ObjectGet(a, name), want)
		same(t, short(name)+": states", len(impl.ObjectStates(a, name)), states)
		same(t, short(name)+": mend", len(impl.MendSteps(a, 0, name)), 0)
	}
	// Files may have names that no object has: they stay as good as not there.
	frames := framesFor(code{2, 1}, "hello")
	for _, name := range []string{"t-0-x", "t--", strings.Repeat("a", 61), strings.Repeat("a", 80)} {
		b := a
		for i, frame := range frames {
			b = withFileOn(b, i, name, frame)
		}
		checkObjectGet(t, b, name)
		same(t, name, impl.ObjectGet(b, name), impl.DataOut{Code: impl.ErrForm})
		checkStates(t, b, name)
		same(t, name+": states", len(impl.ObjectStates(b, name)), 0)
		checkMend(t, withoutFileOn(b, 0, name), 0, name)
		sameList(t, name+": names", checkObjectNames(t, b), []string{"x"})
	}
	for _, name := range rightObjects() {
		b := striped(code{2, 1}, name, "hello")
		checkObjectGet(t, b, name)
		same(t, name, impl.ObjectGet(b, name), impl.DataOut{Text: "hello"})
		sameList(t, name+": states", checkStates(t, b, name), []int64{0, 0, 0})
		sameList(t, name+": names", checkObjectNames(t, b), []string{name})
		same(t, name+": put", len(checkPut(t, b, 9, name, "text")), 9)
		same(t, name+": mend", len(checkMend(t, withoutFileOn(b, 1, name), 9, name)), 3)
	}
}

func TestObjectGetTellsTheFirstFault(t *testing.T) {
	type getIn struct {
		a    impl.Array
		name string
	}
	right := func() getIn { return getIn{striped(code{3, 2}, "x", letters(100)), "x"} }
	faults := []fault[getIn]{
		{impl.ErrSize, func(in *getIn) { in.name = strings.Repeat("x", impl.MaxBytes+1) }},
		{impl.ErrForm, func(in *getIn) { in.a.Drives[4].Room = -1 }},
		{impl.ErrForm, func(in *getIn) { in.name = "t-0-x" }},
		{impl.ErrNone, func(in *getIn) { in.name = "y" }},
		{impl.ErrLost, func(in *getIn) { in.a = everywhere(in.a, "x", "no frame") }},
	}
	firstFault(right, faults, func(in getIn, code int64) {
		same(t, "code", checkObjectGet(t, in.a, in.name).Code, code)
		same(t, "told", impl.ObjectGet(in.a, in.name).Code, code)
	})
}

func TestObjectGetOfNone(t *testing.T) {
	for _, c := range []code{{1, 0}, {2, 1}, {8, 6}} {
		a := emptyArray(c)
		same(t, "empty drives", checkObjectGet(t, a, "x").Code, impl.ErrNone)
		for tag := range 10 {
			for i, frame := range framesFor(c, "hello") {
				a = withFileOn(a, i, fmt.Sprintf("t-%d-x", tag), frame)
			}
			same(t, "files of tags", impl.ObjectGet(a, "x").Code, impl.ErrNone)
		}
		a = everywhere(everywhere(a, "xx", "other"), "w", "other")
		same(t, "other files", checkObjectGet(t, a, "x").Code, impl.ErrNone)
		sameList(t, "states", checkStates(t, a, "x"), slices.Repeat([]int64{1}, len(a.Drives)))
		for i := range a.Drives {
			b := withFileOn(a, i, "x", "no frame")
			same(t, "one file", checkObjectGet(t, b, "x").Code, impl.ErrLost)
			same(t, "one file", impl.ObjectGet(b, "x"), impl.DataOut{Code: impl.ErrLost})
			states := slices.Repeat([]int64{1}, len(a.Drives))
			states[i] = 2
			sameList(t, "states of one file", checkStates(t, b, "x"), states)
			same(t, "mend", len(checkMend(t, b, 0, "x")), 0)
		}
	}
}

func TestObjectGetOfEachSize(t *testing.T) {
	r := rand.New(rand.NewSource(115))
	for _, c := range rightCodes() {
		for _, size := range append(objectSizes(c.k), r.Intn(200)) {
			text := drawnText(r, size)
			a := striped(c, "x", text)
			checkObjectGet(t, a, "x")
			same(t, fmt.Sprint(size, " bytes by ", c), impl.ObjectGet(a, "x"), impl.DataOut{Text: text})
			sameList(t, "states", checkStates(t, a, "x"), make([]int64, len(a.Drives)))
			same(t, "mend", len(checkMend(t, a, 0, "x")), 0)
		}
	}
}

// otherFiles are files of a drive that are no frame of that drive, by the frame that it is to have of a text.
func otherFiles(c code, drive int, text string) []string {
	right := frameWith(c, drive, text)
	bytes := frameBytes(right)
	l := []string{"", "F", "no frame", bytes[1:], bytes[:len(bytes)-1], bytes + "\x00", bytes[:40] + "\xff" + bytes[41:], letters(impl.MaxBytes)}
	for i := range int(c.k + c.m) {
		if i != drive {
			f := right
			f.Index = int64(i)
			l = append(l, frameFor(c, i, text), frameBytes(f))
		}
	}
	for _, other := range []code{{c.k + 1, c.m}, {c.k - 1, c.m}, {c.k, c.m + 1}, {c.k, c.m - 1}, {c.m, c.k}} {
		if other != c && wantCodeRight(other.k, other.m) && int64(drive) < other.k+other.m {
			f := right
			f.K, f.M = other.k, other.m
			f.Text = wantShards(other, text)[drive]
			l = append(l, frameBytes(f))
		}
	}
	return l
}

func TestObjectsOfFilesThatAreNoFrames(t *testing.T) {
	text := letters(24)
	for _, c := range []code{{1, 0}, {2, 0}, {1, 1}, {2, 1}, {2, 2}, {3, 1}} {
		right := striped(c, "x", text)
		for _, at := range somePlaces(len(right.Drives)) {
			for i, file := range otherFiles(c, at, text) {
				what := fmt.Sprint("other file ", i, " at ", at, " by ", c)
				a := withFileOn(right, at, "x", file)
				checkObjectGet(t, a, "x")
				want := impl.DataOut{Text: text}
				if c.m == 0 {
					want = impl.DataOut{Code: impl.ErrLost}
				}
				same(t, what, impl.ObjectGet(a, "x"), want)
				states := make([]int64, len(a.Drives))
				if c.m == 0 {
					states = slices.Repeat([]int64{2}, len(a.Drives))
				}
				states[at] = 2
				sameList(t, what+": states", checkStates(t, a, "x"), states)
				checkMend(t, a, 4, "x")
			}
		}
	}
}

func TestObjectsOfTwoTexts(t *testing.T) {
	// Of the last two the frames have one Size, but not one Whole.
	texts := [][2]string{{"hello", "a longer one"}, {"", "x"}, {"abcdef", "ghijkl"}}
	for _, c := range []code{{1, 0}, {1, 1}, {1, 3}, {2, 0}, {2, 1}, {2, 2}, {2, 3}, {3, 3}, {3, 4}, {2, 6}} {
		for _, pair := range texts {
			frames := [2][]string{framesFor(c, pair[0]), framesFor(c, pair[1])}
			for those := range 1 << (c.k + c.m) {
				a := emptyArray(c)
				for i := range a.Drives {
					a = withFileOn(a, i, "x", frames[those>>i&1][i])
				}
				tellsTheLeast(t, c, a, pair, those)
			}
		}
	}
}

// tellsTheLeast is of an array whose drives have frames of the first text, or, where there is a bit, of the second one.
func tellsTheLeast(t *testing.T, c code, a impl.Array, pair [2]string, those int) {
	t.Helper()
	var count [2]int64
	for i := range a.Drives {
		count[those>>i&1]++
	}
	first := those & 1
	if count[first] < c.k {
		first = 1 - first
	}
	want, states := impl.DataOut{Text: pair[first]}, make([]int64, len(a.Drives))
	if count[first] < c.k {
		want = impl.DataOut{Code: impl.ErrLost}
	}
	for i := range states {
		if those>>i&1 != first || want.Code != impl.OK {
			states[i] = 2
		}
	}
	what := fmt.Sprintf("two texts by %v, %b", c, those)
	checkObjectGet(t, a, "x")
	same(t, what, impl.ObjectGet(a, "x"), want)
	sameList(t, what+": states", checkStates(t, a, "x"), states)
	checkMend(t, a, 1, "x")
}

func TestObjectsOfFramesThatLie(t *testing.T) {
	r := rand.New(rand.NewSource(116))
	for _, c := range []code{{1, 0}, {1, 1}, {1, 2}, {2, 0}, {2, 1}, {2, 2}, {3, 3}} {
		liar := emptyArray(c)
		for i := range liar.Drives {
			f := frameWith(c, i, "hello")
			f.Whole = sha("another text")
			liar = withFileOn(liar, i, "x", frameBytes(f))
		}
		same(t, "all lie", checkObjectGet(t, liar, "x").Code, impl.ErrLost)
		same(t, "all lie, told", impl.ObjectGet(liar, "x"), impl.DataOut{Code: impl.ErrLost})
		sameList(t, "states, if all lie", checkStates(t, liar, "x"), slices.Repeat([]int64{2}, len(liar.Drives)))
		// The first frames lie, but others have K, too.
		if c.m >= c.k {
			a := liar
			for i := int(c.k); i < len(a.Drives); i++ {
				a = withFileOn(a, i, "x", frameFor(c, i, "right"))
			}
			checkObjectGet(t, a, "x")
			same(t, "the first ones lie", impl.ObjectGet(a, "x"), impl.DataOut{Text: "right"})
			checkStates(t, a, "x")
			checkMend(t, a, 1, "x")
		}
		// The Text of one frame is drawn: it hurts only if it is among the first K.
		for i := range liar.Drives {
			a := striped(c, "x", "hello")
			f := frameWith(c, i, "hello")
			f.Text = drawnText(r, len(f.Text))
			a = withFileOn(a, i, "x", frameBytes(f))
			got := checkObjectGet(t, a, "x")
			same(t, "a drawn Text", impl.ObjectGet(a, "x"), got)
			if int64(i) >= c.k {
				same(t, "a drawn Text behind the first", got, impl.DataOut{Text: "hello"})
				sameList(t, "states", checkStates(t, a, "x"), make([]int64, len(a.Drives)))
			} else if c.k > 1 {
				same(t, "a drawn Text among the first", got, impl.DataOut{Code: impl.ErrLost})
			}
			checkStates(t, a, "x")
		}
	}
}

func TestObjectsOfOneWholeAndTwoSizes(t *testing.T) {
	// Bytes 0 behind a text leave its data shards as they are, so that the Size alone tells these apart.
	for _, c := range []code{{1, 1}, {2, 2}, {2, 3}, {4, 4}} {
		long := strings.Repeat("a", int(c.k)) + "b" + strings.Repeat("\x00", int(c.k)-1)
		for those := range 1 << (c.k + c.m) {
			a := striped(c, "x", long)
			for i := range a.Drives {
				if those>>i&1 == 1 {
					f := frameWith(c, i, long)
					f.Size--
					if c.k == 1 {
						f.Text = f.Text[1:]
					}
					a = withFileOn(a, i, "x", frameBytes(f))
				}
			}
			got := checkObjectGet(t, a, "x")
			same(t, fmt.Sprintf("two sizes by %v, %b", c, those), impl.ObjectGet(a, "x"), got)
			if count := len(rowsOf(uint(those))); int64(len(a.Drives)-count) < c.k {
				same(t, "too few of the right size", got, impl.DataOut{Code: impl.ErrLost})
			} else {
				same(t, "enough of the right size", got, impl.DataOut{Text: long})
			}
			checkStates(t, a, "x")
		}
	}
}

// drawnSight is what a drive may have for a file of the name x: none, a frame of one of some texts, or no frame of it.
func drawnSight(r *rand.Rand, c code, drive int, texts []string) (string, bool) {
	text := texts[r.Intn(len(texts))]
	switch r.Intn(8) {
	case 0:
		return "", false
	case 1:
		l := otherFiles(c, drive, text)
		return l[r.Intn(len(l))], true
	case 2:
		f := frameWith(c, drive, text)
		f.Whole = sha(texts[r.Intn(len(texts))])
		return frameBytes(f), true
	}
	return frameFor(c, drive, texts[r.Intn(1+r.Intn(len(texts)))]), true
}

func TestObjectsOfDrawnArrays(t *testing.T) {
	r := rand.New(rand.NewSource(117))
	codes := map[int64]int{}
	for range 600 {
		c := drawnCode(r)
		a := drawnArray(t, r, c)
		texts := []string{drawnText(r, r.Intn(40)), drawnText(r, r.Intn(40)), ""}
		for i := range a.Drives {
			if file, is := drawnSight(r, c, i, texts); is {
				a = withFileOn(a, i, "x", file)
			}
		}
		codes[checkObjectGet(t, a, "x").Code]++
		checkStates(t, a, "x")
		checkObjectNames(t, a)
		checkMend(t, a, r.Int63n(10), "x")
		for _, name := range impl.ObjectNames(a) {
			checkObjectGet(t, a, name)
		}
	}
	for _, code := range []int64{impl.OK, impl.ErrLost} {
		same(t, fmt.Sprint("often enough ", code), codes[code] > 50, true)
	}
}

func TestObjectStatesAtEachPlace(t *testing.T) {
	text := letters(50)
	for _, c := range []code{{1, 1}, {1, 2}, {2, 1}, {3, 2}, {8, 6}} {
		right := striped(c, "x", text)
		for at := range right.Drives {
			none := withoutFileOn(right, at, "x")
			bad := withFileOn(right, at, "x", frameFor(c, at, text)+"!")
			other := withFileOn(right, at, "x", frameFor(c, at, "other"))
			// With K of 1 the other text counts, where its drive is the least one.
			least := c.k == 1 && at == 0
			for i, a := range []impl.Array{none, bad, other} {
				states := make([]int64, len(a.Drives))
				states[at] = []int64{1, 2, 2}[i]
				if i == 2 && least {
					states = slices.Repeat([]int64{2}, len(a.Drives))
					states[0] = 0
				}
				sameList(t, fmt.Sprint("states ", i, " at ", at, " by ", c), checkStates(t, a, "x"), states)
			}
		}
	}
}

func TestObjectStatesSideBySide(t *testing.T) {
	r := rand.New(rand.NewSource(118))
	for round := range 40 {
		c := drawnCode(r)
		if round%2 == 0 {
			c = code{8, 6}
		}
		a := drawnArray(t, r, c)
		texts := []string{letters(r.Intn(2000)), letters(30)}
		for i := range a.Drives {
			if file, is := drawnSight(r, c, i, texts); is {
				a = withFileOn(a, i, "x", file)
			}
		}
		want := wantStates(a, "x")
		const workers = 16
		var got [workers][]int64
		var group sync.WaitGroup
		for i := range workers {
			group.Go(func() { got[i] = impl.ObjectStates(a, "x") })
		}
		group.Wait()
		for i := range workers {
			sameList(t, "side by side", got[i], want)
			sameList(t, "one behind the other", impl.ObjectStates(a, "x"), want)
		}
	}
}

func TestObjectNames(t *testing.T) {
	a := emptyArray(code{2, 1})
	sameList(t, "none", checkObjectNames(t, a), nil)
	a = withFileOn(a, 2, "z", "no frame")
	a = withFileOn(a, 0, "m", "")
	a = withFileOn(a, 1, "m", frameFor(code{2, 1}, 1, "m"))
	a = withFileOn(a, 1, "a", "x")
	a = everywhere(everywhere(a, "k", "x"), "t-0-k", "x")
	for i, name := range []string{"t-", "t-a", "t-9-z", "t--", strings.Repeat("a", 61), strings.Repeat("b", 80), "t-" + strings.Repeat("a", 58)} {
		a = withFileOn(a, i%3, name, "x")
	}
	a = withFileOn(a, 2, strings.Repeat("b", 60), "x")
	a = withFileOn(a, 0, "t", "x")
	a = withFileOn(a, 1, "ta", "x")
	a = withFileOn(a, 2, "t0-k", "x")
	sameList(t, "names", checkObjectNames(t, a), []string{"a", strings.Repeat("b", 60), "k", "m", "t", "t0-k", "ta", "z"})
	sameList(t, "told", impl.ObjectNames(a), []string{"a", strings.Repeat("b", 60), "k", "m", "t", "t0-k", "ta", "z"})
	// More names than a list that is handed in may have.
	many := emptyArray(code{8, 6})
	var want []string
	for i := range many.Drives {
		for j := range impl.MaxFiles {
			name := fmt.Sprintf("n%02d-%02d", j, i)
			many.Drives[i].Files = append(many.Drives[i].Files, impl.Stored{Name: name})
			want = append(want, name)
		}
	}
	slices.Sort(want)
	sameList(t, "many", checkObjectNames(t, many), want)
}

func TestPutStepsKnown(t *testing.T) {
	c := code{2, 1}
	f := framesFor(c, "hello")
	write := func(drive int64) []impl.Step {
		return []impl.Step{{Drive: drive, Op: impl.Op{Kind: impl.OpWrite, Name: "t-7-x", Text: f[drive]}}, {Drive: drive, Op: impl.Op{Kind: impl.OpSync, Name: "t-7-x"}}}
	}
	remove := func(drive int64) []impl.Step {
		return []impl.Step{{Drive: drive, Op: impl.Op{Kind: impl.OpRemove, Name: "t-7-x"}}}
	}
	rename := func(drive int64) []impl.Step {
		return []impl.Step{{Drive: drive, Op: impl.Op{Kind: impl.OpRename, Name: "t-7-x", To: "x"}}}
	}
	renames := slices.Concat(rename(0), rename(1), rename(2))
	a := striped(c, "x", "old")
	sameList(t, "no tag's file", checkPut(t, a, 7, "x", "hello"), slices.Concat(write(0), write(1), write(2), renames))
	one := withFileOn(a, 1, "t-7-x", "left")
	sameList(t, "one tag's file", checkPut(t, one, 7, "x", "hello"), slices.Concat(write(0), remove(1), write(1), write(2), renames))
	all := everywhere(a, "t-7-x", "left")
	sameList(t, "all tags' files", checkPut(t, all, 7, "x", "hello"),
		slices.Concat(remove(0), write(0), remove(1), write(1), remove(2), write(2), renames))
	others := everywhere(everywhere(everywhere(a, "t-6-x", "left"), "t-7-xx", "left"), "t-7-", "left")
	sameList(t, "others' files", checkPut(t, others, 7, "x", "hello"), slices.Concat(write(0), write(1), write(2), renames))
}

func TestMendStepsKnown(t *testing.T) {
	c := code{2, 2}
	f := framesFor(c, "hello")
	steps := func(drive int64) []impl.Step {
		return []impl.Step{{Drive: drive, Op: impl.Op{Kind: impl.OpWrite, Name: "t-3-x", Text: f[drive]}},
			{Drive: drive, Op: impl.Op{Kind: impl.OpSync, Name: "t-3-x"}}, {Drive: drive, Op: impl.Op{Kind: impl.OpRename, Name: "t-3-x", To: "x"}}}
	}
	remove := func(drive int64) []impl.Step {
		return []impl.Step{{Drive: drive, Op: impl.Op{Kind: impl.OpRemove, Name: "t-3-x"}}}
	}
	a := striped(c, "x", "hello")
	sameList(t, "nothing", checkMend(t, everywhere(a, "t-3-x", "left"), 3, "x"), nil)
	for i := range a.Drives {
		sameList(t, "one lost", checkMend(t, withoutFileOn(a, i, "x"), 3, "x"), steps(int64(i)))
		b := withFileOn(withFileOn(a, i, "x", "bad"), i, "t-3-x", "left")
		sameList(t, "one bad, with the tag's file", checkMend(t, b, 3, "x"), slices.Concat(remove(int64(i)), steps(int64(i))))
	}
	b := withoutFileOn(withFileOn(everywhere(a, "t-3-x", "left"), 3, "x", frameFor(c, 3, "other")), 1, "x")
	sameList(t, "all but K", checkMend(t, b, 3, "x"), slices.Concat(remove(1), steps(1), remove(3), steps(3)))
	sameList(t, "too few", checkMend(t, withoutFileOn(b, 0, "x"), 3, "x"), nil)
	sameList(t, "no such object", checkMend(t, b, 3, "y"), nil)
}

func TestStepsOfEachPlaceOfATagsFile(t *testing.T) {
	for _, c := range []code{{1, 0}, {1, 1}, {2, 1}, {3, 2}} {
		for those := range uint(1) << (c.k + c.m) {
			a := emptyArray(c)
			for _, i := range rowsOf(those) {
				a = withFileOn(a, int(i), "t-5-x", letters(int(i)))
			}
			same(t, "put", len(checkPut(t, a, 5, "x", "hello")), 3*len(a.Drives)+len(rowsOf(those)))
			same(t, "put by another", len(checkPut(t, a, 4, "x", "hello")), 3*len(a.Drives))
			for i, frame := range framesFor(c, "hello")[:c.k] {
				a = withFileOn(a, i, "x", frame)
			}
			same(t, "mend", len(checkMend(t, a, 5, "x")), 3*int(c.m)+len(rowsOf(those>>c.k)))
			same(t, "mend by another", len(checkMend(t, a, 6, "x")), 3*int(c.m))
		}
	}
}

func TestStepsOfTags(t *testing.T) {
	a := withoutFileOn(striped(code{2, 1}, "x", "hello"), 0, "x")
	for _, tag := range append(edges(9), 2, 3, 4, 5, 6, 7, 256, 257) {
		put, mend := 0, 0
		if tag >= 0 && tag <= 9 {
			put, mend = 9, 3
		}
		same(t, fmt.Sprint("put by ", tag), len(checkPut(t, a, tag, "x", "hello")), put)
		same(t, fmt.Sprint("mend by ", tag), len(checkMend(t, a, tag, "x")), mend)
	}
}

func TestPutStepsByTexts(t *testing.T) {
	r := rand.New(rand.NewSource(119))
	for _, c := range []code{{1, 0}, {1, 6}, {2, 1}, {5, 3}, {8, 6}} {
		a := drawnArray(t, r, c)
		for _, size := range []int{0, 1, impl.MaxPack - 1, impl.MaxPack, impl.MaxPack + 1, impl.MaxBytes, impl.MaxBytes + 1, 2 * impl.MaxBytes} {
			got := checkPut(t, a, 0, "y", drawnText(r, size))
			same(t, fmt.Sprint(size, " bytes"), len(got) > 0, size <= 12000)
		}
	}
	for range 200 {
		a := drawnArray(t, r, drawnCode(r))
		checkPut(t, a, r.Int63n(12)-1, drawnName(r), drawnText(r, r.Intn(100)))
		checkPut(t, a, r.Int63n(10), "x", drawnText(r, r.Intn(100)))
	}
}

// syncSteps are as many, each of which can be done on a drive that has a file x.
func syncSteps(count int) []impl.Step {
	return slices.Repeat([]impl.Step{{Drive: 0, Op: impl.Op{Kind: impl.OpSync, Name: "x"}}}, count)
}

func TestStepsDoByCounts(t *testing.T) {
	for _, c := range []code{{1, 0}, {2, 1}, {8, 6}} {
		a := everywhere(emptyArray(c), "t-0-x", "left")
		l := impl.PutSteps(a, 0, "x", "hello")
		for _, steps := range [][]impl.Step{nil, l[:1], l} {
			size := int64(len(steps))
			for _, n := range append(edges(size), 2, size/2) {
				want := checkStepsDo(t, a, steps, n)
				same(t, fmt.Sprint("code of ", n, " of ", size), want.Code, impl.OK)
				same(t, fmt.Sprint("done of ", n, " of ", size), impl.StepsDo(a, steps, n).Done, min(max(n, 0), size))
			}
			sameArray(t, "none done", impl.StepsDo(a, steps, 0).Array, a)
			sameArray(t, "fewer than none done", impl.StepsDo(a, steps, math.MinInt64).Array, a)
		}
		for n := range len(l) + 1 {
			checkStepsDo(t, a, l, int64(n))
		}
		same(t, "all done", impl.ObjectGet(impl.StepsDo(a, l, math.MaxInt64).Array, "x"), impl.DataOut{Text: "hello"})
	}
}

func TestStepsDoByLists(t *testing.T) {
	a := striped(code{2, 1}, "x", "hello")
	for _, count := range []int{0, 1, 399, 400, 401, 402, 1000} {
		for _, n := range []int64{-1, 0, 1, 399, 400, 401, math.MaxInt64} {
			want := checkStepsDo(t, a, syncSteps(count), n)
			code, done := int64(impl.OK), min(max(n, 0), int64(count))
			if count > 400 {
				code, done = impl.ErrSize, 0
			}
			same(t, fmt.Sprint("code of ", count, " steps"), want.Code, code)
			same(t, fmt.Sprint("done of ", count, " steps"), want.Done, done)
		}
	}
	long := syncSteps(401)
	long[400].Drive = -1
	same(t, "many steps ahead of no drive", checkStepsDo(t, a, long, 400).Code, impl.ErrSize)
}

func TestStepsDoByDrives(t *testing.T) {
	for _, c := range []code{{1, 0}, {2, 1}, {8, 6}} {
		a := striped(c, "x", "hello")
		sides := c.k + c.m
		for _, drive := range append(edges(sides-1), sides, sides+1, 256, 1<<32) {
			for _, at := range []int{0, 1, 4} {
				l := syncSteps(5)
				l[at].Drive = drive
				for _, n := range []int64{-1, 0, int64(at), int64(at) + 1, 5, math.MaxInt64} {
					want := checkStepsDo(t, a, l, n)
					if drive >= 0 && drive < sides {
						same(t, fmt.Sprint("code of drive ", drive), want.Code, impl.OK)
						continue
					}
					got := impl.StepsDo(a, l, n)
					same(t, fmt.Sprint("code of no drive ", drive), got.Code, impl.ErrForm)
					same(t, "done", got.Done, 0)
					sameArray(t, "nothing beside it", got.Array, impl.Array{})
				}
			}
		}
		// No op of such a list is looked at.
		l := append([]impl.Step{{Drive: 0, Op: impl.Op{Kind: impl.OpRemove, Name: "none"}}}, impl.Step{Drive: sides})
		same(t, "no drive behind what is refused", checkStepsDo(t, a, l, 2).Code, impl.ErrForm)
	}
}

func TestStepsDoUpToWhatIsRefused(t *testing.T) {
	refused := []struct {
		code int64
		op   impl.Op
	}{
		{impl.ErrForm, impl.Op{}},
		{impl.ErrForm, impl.Op{Kind: impl.OpWrite, Name: "new", To: "x"}},
		{impl.ErrForm, impl.Op{Kind: impl.OpWrite, Name: "new", Text: letters(impl.MaxBytes + 1)}},
		{impl.ErrForm, impl.Op{Kind: impl.OpSync, Name: "X"}},
		{impl.ErrForm, impl.Op{Kind: impl.OpRename, Name: "f000"}},
		{impl.ErrForm, impl.Op{Kind: math.MinInt64, Name: "f000"}},
		{impl.ErrThere, impl.Op{Kind: impl.OpWrite, Name: "f002", Text: "x"}},
		{impl.ErrFull, impl.Op{Kind: impl.OpWrite, Name: "a", Text: letters(400)}},
		{impl.ErrFull, impl.Op{Kind: impl.OpWrite, Name: "f001", Text: letters(400)}},
		{impl.ErrFull, impl.Op{Kind: impl.OpWrite, Name: "z", Text: letters(400)}},
		{impl.ErrNone, impl.Op{Kind: impl.OpSync, Name: "none"}},
		{impl.ErrNone, impl.Op{Kind: impl.OpRename, Name: "none", To: "f000"}},
		{impl.ErrNone, impl.Op{Kind: impl.OpRemove, Name: "none"}},
	}
	a := impl.Array{K: 2, M: 1, Drives: []impl.Drive{someFiles(4), someFiles(4), someFiles(4)}}
	var right []impl.Step
	for drive := range int64(3) {
		for _, o := range rightOps("n", "o")[:3] {
			right = append(right, impl.Step{Drive: drive, Op: o})
		}
	}
	for i, x := range refused {
		for at := range len(right) + 1 {
			for drive := range int64(3) {
				l := slices.Insert(slices.Clone(right), at, impl.Step{Drive: drive, Op: x.op})
				what := fmt.Sprint("refused ", i, " at ", at, " on ", drive)
				checkStepsDo(t, a, l, int64(at))
				want := checkStepsDo(t, a, l, int64(at)+1)
				same(t, what+": code", want.Code, x.code)
				same(t, what+": done", want.Done, int64(at))
				got := impl.StepsDo(a, l, math.MaxInt64)
				same(t, what+": code", got.Code, x.code)
				same(t, what+": done", got.Done, int64(at))
				sameArray(t, what, got.Array, impl.StepsDo(a, right, int64(at)).Array)
			}
		}
	}
}

func TestStepsDoOnFullDrives(t *testing.T) {
	a := impl.Array{K: 2, M: 1, Drives: []impl.Drive{someFiles(59), someFiles(60), someFiles(59)}}
	write := func(drive int64, name string) impl.Step {
		return impl.Step{Drive: drive, Op: impl.Op{Kind: impl.OpWrite, Name: name}}
	}
	for _, name := range []string{"a", "f001", "f059", "z"} {
		want := checkStepsDo(t, a, []impl.Step{write(0, name), write(1, name), write(2, name)}, 3)
		same(t, "no more files: code", want.Code, impl.ErrFull)
		same(t, "no more files: done", want.Done, 1)
		sameDrive(t, "as it was", impl.StepsDo(a, []impl.Step{write(1, name)}, 1).Array.Drives[1], a.Drives[1])
	}
	for i := range a.Drives {
		a.Drives[i].Room -= 10
	}
	same(t, "just room", checkStepsDo(t, a, []impl.Step{write(0, "z")}, 1).Code, impl.OK)
}

func TestStepsDoOfDrawnSteps(t *testing.T) {
	r := rand.New(rand.NewSource(120))
	for range 300 {
		a := drawnArray(t, r, drawnCode(r))
		for i := range a.Drives {
			if r.Intn(2) == 0 {
				a.Drives[i] = drawnDrive(r)
			}
		}
		var l []impl.Step
		b := a
		for range r.Intn(20) {
			drive := r.Intn(len(a.Drives))
			s := impl.Step{Drive: int64(drive), Op: drawnOp(r, b.Drives[drive])}
			if r.Intn(20) == 0 {
				s.Op = impl.Op{Kind: impl.OpSync, Name: "none"}
			}
			l = append(l, s)
			b = wantStepsDo(b, []impl.Step{s}, 1).Array
		}
		out := checkStepsDo(t, a, l, int64(r.Intn(len(l)+2)))
		same(t, "right", impl.ArrayRight(out.Array), true)
	}
}

// hurt is how a drive may lose what it has of x.
func hurt(r *rand.Rand, a impl.Array, drive int, how int) (impl.Array, int64) {
	switch how {
	case 0:
		return withoutFileOn(a, drive, "x"), impl.ShardNone
	case 1:
		out := copiedArray(a)
		out.Drives[drive].Files = nil
		return out, impl.ShardNone
	}
	out := copiedArray(a)
	size := len(byName(a.Drives[drive])["x"].Text)
	out.Drives[drive] = impl.DriveRot(a.Drives[drive], "x", int64(r.Intn(size)), int64(1+r.Intn(255)))
	return out, impl.ShardBad
}

// comesBackMended takes an array with a text of the name x whole: it asks what promise 14 says, though these drives are
// hurt.
func comesBackMended(t *testing.T, r *rand.Rand, a impl.Array, text string, drives []int, how int) {
	t.Helper()
	states := make([]int64, len(a.Drives))
	b, others := a, copiedArray(a)
	for _, drive := range drives {
		way := how
		if how > 2 {
			way = r.Intn(3)
		}
		b, states[drive] = hurt(r, b, drive, way)
		others.Drives[drive].Files = b.Drives[drive].Files
	}
	what := fmt.Sprintf("%d bytes by %d and %d, drives %v hurt by %d", len(text), a.K, a.M, drives, how)
	same(t, what, impl.ObjectGet(b, "x"), impl.DataOut{Text: text})
	sameList(t, what+": states", impl.ObjectStates(b, "x"), states)
	tag := r.Int63n(10)
	mended := doAll(t, b, impl.MendSteps(b, tag, "x"))
	same(t, what+": mended", impl.ObjectGet(mended, "x"), impl.DataOut{Text: text})
	sameList(t, what+": states, mended", impl.ObjectStates(mended, "x"), make([]int64, len(a.Drives)))
	sameList(t, what+": no more to mend", impl.MendSteps(mended, tag, "x"), nil)
	file := fmt.Sprintf("t-%d-x", tag)
	for i, d := range a.Drives {
		same(t, what+": the file", byName(mended.Drives[i])["x"], byName(d)["x"])
		leavesOthers(t, others.Drives[i], impl.Op{Name: "x", To: file}, mended.Drives[i])
		same(t, what+": the tag's file", hasFile(mended.Drives[i], file), states[i] == impl.ShardGood && hasFile(d, file))
	}
}

// choices are all sets of so many drives, if they are no more than most, or else as many drawn ones.
func choices(r *rand.Rand, sides int, count int, most int) [][]int {
	var l [][]int
	for those := range uint(1) << sides {
		if rows := rowsOf(those); len(rows) == count {
			set := make([]int, count)
			for i, row := range rows {
				set[i] = int(row)
			}
			l = append(l, set)
		}
	}
	r.Shuffle(len(l), func(i, j int) { l[i], l[j] = l[j], l[i] })
	return l[:min(len(l), most)]
}

// Promise 14.
func TestTextsComeBackThoughDrivesAreHurt(t *testing.T) {
	r := rand.New(rand.NewSource(121))
	for _, c := range rightCodes() {
		for _, size := range append(objectSizes(c.k), r.Intn(100)) {
			text := drawnText(r, size)
			a := drawnArray(t, r, c)
			a = doAll(t, a, checkPut(t, a, r.Int63n(10), "x", text))
			same(t, "put", impl.ObjectGet(a, "x"), impl.DataOut{Text: text})
			most := 15
			if size == impl.MaxPack {
				most = 1
			}
			for i, drives := range choices(r, len(a.Drives), int(c.m), most) {
				comesBackMended(t, r, a, text, drives, i%4)
				comesBackMended(t, r, a, text, drives[:r.Intn(len(drives)+1)], (i+1)%4)
			}
			for _, drives := range choices(r, len(a.Drives), int(c.m)+1, 2) {
				b := a
				for _, drive := range drives {
					b, _ = hurt(r, b, drive, r.Intn(3))
				}
				same(t, "too many are hurt", impl.ObjectGet(b, "x").Code, wantObjectGet(b, "x").Code)
				same(t, "too many are hurt", impl.ObjectGet(b, "x").Text, "")
				same(t, "nothing to mend with", len(impl.MendSteps(b, 0, "x")), 0)
			}
		}
	}
}

// Promise 14, for each choice and each way, where the drives are few.
func TestTextsComeBackFromEachChoiceOfDrives(t *testing.T) {
	r := rand.New(rand.NewSource(122))
	for _, c := range []code{{1, 0}, {1, 1}, {1, 3}, {2, 1}, {2, 2}, {3, 2}, {4, 2}, {3, 3}, {2, 6}} {
		text := drawnText(r, 5*int(c.k)+1)
		a := putAll(t, drawnArray(t, r, c), "x", text)
		for _, drives := range choices(r, len(a.Drives), int(c.m), math.MaxInt) {
			for how := range 4 {
				comesBackMended(t, r, a, text, drives, how)
			}
		}
	}
}

// Promise 14: no byte of a frame may be another one.
func TestTextsComeBackThoughAnyByteIsTurned(t *testing.T) {
	text := letters(30)
	a := putAll(t, emptyArray(code{2, 1}), "x", text)
	for drive := range a.Drives {
		for at := range len(byName(a.Drives[drive])["x"].Text) {
			b := copiedArray(a)
			b.Drives[drive] = impl.DriveRot(a.Drives[drive], "x", int64(at), int64(1+at%255))
			states := make([]int64, 3)
			states[drive] = impl.ShardBad
			same(t, "got", impl.ObjectGet(b, "x"), impl.DataOut{Text: text})
			sameList(t, "states", impl.ObjectStates(b, "x"), states)
			sameArray(t, "mended", doAll(t, b, impl.MendSteps(b, 0, "x")), a)
		}
	}
}

// thePowerGoes takes a right array.
func thePowerGoes(r *rand.Rand, a impl.Array) impl.Array {
	out := copiedArray(a)
	for i, d := range a.Drives {
		out.Drives[i] = impl.DriveCrash(d, drawnKeep(r, d))
	}
	return out
}

// allSynced are the objects of which each file is, with what is told of them.
func allSynced(a impl.Array) map[string]impl.DataOut {
	out := map[string]impl.DataOut{}
	for _, name := range impl.ObjectNames(a) {
		out[name] = impl.ObjectGet(a, name)
		for _, d := range a.Drives {
			if f := byName(d)[name]; f.Synced < int64(len(f.Text)) {
				delete(out, name)
			}
		}
	}
	return out
}

// Promise 15.
func TestTextsArePutWholeOrNotAtAll(t *testing.T) {
	r := rand.New(rand.NewSource(123))
	for i, c := range append(rightCodes(), rightCodes()...) {
		sizes := append(objectSizes(c.k), r.Intn(100), r.Intn(100))
		text := drawnText(r, sizes[i%len(sizes)])
		a := drawnArray(t, r, c)
		if names := impl.ObjectNames(a); len(names) > 0 {
			a = withoutFileOn(a, r.Intn(len(a.Drives)), names[r.Intn(len(names))])
		}
		before := allSynced(a)
		l := impl.PutSteps(a, r.Int63n(10), "x", text)
		renamed := int64(0)
		for n := range len(l) + 1 {
			if n > 0 && l[n-1].Op.Kind == impl.OpRename {
				renamed++
			}
			out := impl.StepsDo(a, l, int64(n))
			same(t, "done", out.Done, int64(n))
			b := thePowerGoes(r, out.Array)
			want := impl.DataOut{Text: text}
			if renamed == 0 {
				want = impl.DataOut{Code: impl.ErrNone}
			} else if renamed < c.k {
				want = impl.DataOut{Code: impl.ErrLost}
			}
			what := fmt.Sprint("the power goes behind ", n, " of ", len(l), " steps by ", c)
			same(t, what, impl.ObjectGet(b, "x"), want)
			for name, told := range before {
				same(t, what+": "+name, impl.ObjectGet(b, name), told)
			}
		}
	}
}

func TestTextsArePutBehindAPutThatWasLeft(t *testing.T) {
	r := rand.New(rand.NewSource(124))
	for range 60 {
		a := drawnArray(t, r, drawnCode(r))
		for range 3 {
			l := impl.PutSteps(a, 2, "x", drawnText(r, r.Intn(100)))
			a = thePowerGoes(r, impl.StepsDo(a, l, int64(r.Intn(len(l)))).Array)
		}
		text := drawnText(r, r.Intn(100))
		a = doAll(t, a, checkPut(t, a, 2, "x", text))
		same(t, "put", impl.ObjectGet(a, "x"), impl.DataOut{Text: text})
		sameList(t, "states", checkStates(t, a, "x"), make([]int64, len(a.Drives)))
		for _, d := range a.Drives {
			same(t, "the tag's file", hasFile(d, "t-2-x"), false)
		}
	}
}
