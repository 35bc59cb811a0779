package tests

import (
	"fmt"
	"maps"
	"math"
	"math/rand"
	"regexp"
	"slices"
	"strings"
	"sync"
	"testing"
	"unsafe"

	"loop.example/g00259/impl"
)

var rightPath = regexp.MustCompile(`^[a-z][a-z0-9-]{0,79}(/[a-z][a-z0-9-]{0,79}){0,4}$`)

func wantFilesRight(l []impl.File) bool {
	paths := map[string]bool{}
	for i, f := range l {
		if !rightPath.MatchString(f.Path) || len(f.Text) > 1500 || i > 0 && l[i-1].Path >= f.Path {
			return false
		}
		paths[f.Path] = true
	}
	for path := range paths {
		for at := range path {
			if path[at] == '/' && paths[path[:at]] {
				return false
			}
		}
	}
	return len(l) <= 20
}

func wantNodeRight(n impl.Node) bool {
	if !rightPath.MatchString(n.Name) || strings.Contains(n.Name, "/") {
		return false
	}
	if slices.ContainsFunc(n.Keys, func(key string) bool { return len(key) != 32 }) {
		return false
	}
	if n.Dir {
		return n.Size == 0 && len(n.Keys) == 1
	}
	return n.Size >= 0 && n.Size <= 1500 && len(n.Keys) <= 100
}

func wantNodesRight(l []impl.Node) bool {
	for i, n := range l {
		if !wantNodeRight(n) || i > 0 && l[i-1].Name >= n.Name {
			return false
		}
	}
	return len(l) <= 20
}

// nodeBytes takes nodes that are not right, too.
func nodeBytes(n impl.Node) string {
	dir := map[bool]string{false: "\x00", true: "\x02"}[n.Dir]
	return varint(int64(len(n.Name))) + n.Name + dir + varint(n.Size) + varint(int64(len(n.Keys))) + strings.Join(n.Keys, "")
}

func nodesBytes(l []impl.Node) string {
	return countedNodes(int64(len(l)), l)
}

// countedNodes tells a number of nodes that need not be theirs.
func countedNodes(count int64, l []impl.Node) string {
	var out strings.Builder
	out.WriteString(varint(count))
	for _, n := range l {
		out.WriteString(nodeBytes(n))
	}
	return out.String()
}

func wantNodesRead(text string) impl.NodesOut {
	if len(text) > 20000 {
		return impl.NodesOut{Code: impl.ErrSize}
	}
	var l []impl.Node
	r := reading{rest: text}
	count := r.number()
	for i := int64(0); i < count && !r.failed; i++ {
		n := impl.Node{Name: r.take(r.number())}
		dir := r.number()
		n.Size, n.Dir = r.number(), dir == 1
		keys := r.number()
		r.failed = r.failed || dir != 0 && dir != 1 || keys < 0
		for k := int64(0); k < keys && !r.failed; k++ {
			n.Keys = append(n.Keys, r.take(32))
		}
		l = append(l, n)
	}
	if count < 0 || r.failed || r.rest != "" || !wantNodesRight(l) {
		return impl.NodesOut{Code: impl.ErrSyntax}
	}
	return impl.NodesOut{Nodes: l}
}

func wantCuttingRight(c impl.Cutting) bool {
	return c.Min >= 16 && c.Min <= 1000 && c.Bits >= 0 && c.Bits <= 12 && c.Max >= c.Min && c.Max <= 2000
}

// A grove is the blobs of a tree as the test has them, each once, and whether all of them may be.
type grove struct {
	blobs []impl.Blob
	fits  bool
}

func (g *grove) add(kind int64, text string) string {
	b := impl.Blob{Kind: kind, Text: text}
	if !slices.Contains(g.blobs, b) {
		g.blobs = append(g.blobs, b)
	}
	g.fits = g.fits && len(text) <= 2000
	return wantKey(b)
}

// directory goes by what the paths begin with, a directory's name with its "/": these rise as the paths do.
func (g *grove) directory(c impl.Cutting, l []impl.File) string {
	parts := map[string][]impl.File{}
	for _, f := range l {
		part, rest := f.Path, ""
		if at := strings.IndexByte(f.Path, '/'); at >= 0 {
			part, rest = f.Path[:at+1], f.Path[at+1:]
		}
		parts[part] = append(parts[part], impl.File{Path: rest, Text: f.Text})
	}
	nodes := map[string]impl.Node{}
	for _, part := range slices.Sorted(maps.Keys(parts)) {
		name, is := strings.CutSuffix(part, "/")
		if is {
			nodes[name] = impl.Node{Name: name, Dir: true, Keys: []string{g.directory(c, parts[part])}}
			continue
		}
		n := impl.Node{Name: name, Size: int64(len(parts[part][0].Text))}
		for _, piece := range wantPieces(c, parts[part][0].Text) {
			n.Keys = append(n.Keys, g.add(impl.KindData, piece))
		}
		g.fits = g.fits && len(n.Keys) <= 100
		nodes[name] = n
	}
	var rising []impl.Node
	for _, name := range slices.Sorted(maps.Keys(nodes)) {
		rising = append(rising, nodes[name])
	}
	return g.add(impl.KindTree, nodesBytes(rising))
}

func wantTree(c impl.Cutting, l []impl.File) impl.TreeOut {
	if len(l) > 400 {
		return impl.TreeOut{Code: impl.ErrSize}
	}
	if !wantCuttingRight(c) || !wantFilesRight(l) {
		return impl.TreeOut{Code: impl.ErrForm}
	}
	g := grove{fits: true}
	root := g.directory(c, l)
	if !g.fits {
		return impl.TreeOut{Code: impl.ErrRange}
	}
	if len(g.blobs) > 400 {
		return impl.TreeOut{Code: impl.ErrFull}
	}
	return impl.TreeOut{Root: root, Blobs: g.blobs}
}

// A stop is what lies ahead on a walk: a directory by its key, or one of its nodes.
type stop struct {
	names []string
	key   string
	node  *impl.Node
}

// A stroll is a walk as the test has it, which goes by a list of stops, the next one last.
type stroll struct {
	blobs map[string]impl.Blob
	ahead []stop
	met   int
	keys  map[string]bool
	files map[string]string
}

func wantWalk(blobs []impl.Blob, root string) (impl.FilesOut, []string) {
	if len(blobs) > 400 || len(root) > 20000 {
		return impl.FilesOut{Code: impl.ErrSize}, nil
	}
	return strolled(blobs, root)
}

// strolled takes however many blobs.
func strolled(blobs []impl.Blob, root string) (impl.FilesOut, []string) {
	s := stroll{blobs: map[string]impl.Blob{}, ahead: []stop{{key: root}}, keys: map[string]bool{}, files: map[string]string{}}
	// The last one first, so that the first one of a key is what stays.
	for _, b := range slices.Backward(blobs) {
		if (b.Kind == 1 || b.Kind == 2) && len(b.Text) <= 2000 {
			s.blobs[wantKey(b)] = b
		}
	}
	for len(s.ahead) > 0 {
		next := s.ahead[len(s.ahead)-1]
		s.ahead = s.ahead[:len(s.ahead)-1]
		if code := s.pass(next); code != impl.OK {
			return impl.FilesOut{Code: code}, nil
		}
	}
	var out impl.FilesOut
	for _, path := range slices.Sorted(maps.Keys(s.files)) {
		out.Files = append(out.Files, impl.File{Path: path, Text: s.files[path]})
	}
	return out, slices.Sorted(maps.Keys(s.keys))
}

func (s *stroll) pass(next stop) int64 {
	if next.node == nil {
		b, is := s.blobs[next.key]
		s.keys[next.key] = true
		nodes := wantNodesRead(b.Text)
		if !is {
			return impl.ErrNone
		}
		for _, n := range slices.Backward(nodes.Nodes) {
			s.ahead = append(s.ahead, stop{names: append(slices.Clone(next.names), n.Name), node: &n})
		}
		if b.Kind != impl.KindTree {
			return impl.ErrSyntax
		}
		return nodes.Code
	}
	s.met++
	if len(next.names) > 5 || s.met > 200 || !next.node.Dir && len(s.files) == 20 {
		return impl.ErrRange
	}
	if next.node.Dir {
		s.ahead = append(s.ahead, stop{names: next.names, key: next.node.Keys[0]})
		return impl.OK
	}
	return s.file(*next.node, strings.Join(next.names, "/"))
}

func (s *stroll) file(n impl.Node, path string) int64 {
	text, left := "", n.Size
	for _, key := range n.Keys {
		b, is := s.blobs[key]
		if !is {
			return impl.ErrNone
		}
		if b.Kind != impl.KindData {
			return impl.ErrSyntax
		}
		if left -= int64(len(b.Text)); left < 0 {
			return impl.ErrSum
		}
		s.keys[key] = true
		text += b.Text
	}
	if left > 0 {
		return impl.ErrSum
	}
	s.files[path] = text
	return impl.OK
}

// softList has two things behind its last one in the list's room, which a call may not change, either.
func softList[T any](m *softMemory, l []T, behind T, each func(T) T) []T {
	room := make([]T, len(l)+2)
	for i := range room {
		room[i] = behind
	}
	for i, x := range l {
		room[i] = each(x)
	}
	m.clears = append(m.clears, func() { clear(room) })
	return room[:len(l)]
}

func behindFiles() impl.File { return impl.File{Path: "behind", Text: "behind"} }
func behindBlobs() impl.Blob { return impl.Blob{Kind: 7, Text: "behind"} }
func behindNodes() impl.Node { return impl.Node{Name: "behind", Size: 7} }

func (m *softMemory) files(l []impl.File) []impl.File {
	return softList(m, l, behindFiles(), func(f impl.File) impl.File {
		return impl.File{Path: m.text(f.Path), Text: m.text(f.Text)}
	})
}

func (m *softMemory) blobs(l []impl.Blob) []impl.Blob {
	return softList(m, l, behindBlobs(), func(b impl.Blob) impl.Blob {
		return impl.Blob{Kind: b.Kind, Text: m.text(b.Text)}
	})
}

func (m *softMemory) nodes(l []impl.Node) []impl.Node {
	return softList(m, l, behindNodes(), func(n impl.Node) impl.Node {
		keys := softList(m, n.Keys, "behind", m.text)
		return impl.Node{Name: m.text(n.Name), Dir: n.Dir, Size: n.Size, Keys: keys}
	})
}

// listUnchanged asks the same of a list and of what stands behind it in its room.
func listUnchanged[T comparable](t *testing.T, what string, given []T, l []T, behind T) {
	t.Helper()
	sameList(t, what+": what was handed in", given, l)
	sameList(t, what+": behind what was handed in", given[len(l):cap(given)], []T{behind, behind})
}

func sameNodes(t *testing.T, what string, got []impl.Node, want []impl.Node) {
	t.Helper()
	same(t, what+": how many nodes", len(got), len(want))
	for i, n := range want {
		same(t, what+": name", got[i].Name, n.Name)
		same(t, what+": directory", got[i].Dir, n.Dir)
		same(t, what+": size", got[i].Size, n.Size)
		sameList(t, what+": keys", got[i].Keys, n.Keys)
	}
}

func nodesUnchanged(t *testing.T, what string, given []impl.Node, l []impl.Node) {
	t.Helper()
	sameNodes(t, what+": what was handed in", given, l)
	sameNodes(t, what+": behind what was handed in", given[len(l):cap(given)], []impl.Node{behindNodes(), behindNodes()})
	for i, n := range l {
		sameList(t, what+": behind the keys", given[i].Keys[len(n.Keys):cap(given[i].Keys)], []string{"behind", "behind"})
	}
}

// A telling is a call of what stands in soft memory, and what is asked of it.
type telling[A any] struct {
	what      string
	memory    *softMemory
	call      func() A
	unchanged func(what string)
	told      func(what string, got A)
	texts     func(A) []string
	wreck     func(A)
}

// twice asks that each of two calls tells what is wanted, that nothing handed in is changed, and that no answer shares
// memory with what was handed in, nor with the other answer.
func (q telling[A]) twice(t *testing.T) {
	t.Helper()
	got := q.call()
	q.unchanged(q.what)
	again := q.call()
	q.unchanged(q.what + ", again")
	q.memory.spoil()
	q.told(q.what, got)
	noneShared(t, q.what, q.texts(got), q.texts(again))
	q.wreck(got)
	q.told(q.what+", again", again)
}

// noneShared leaves out texts of one byte, which stand at one place in all of a program.
func noneShared(t *testing.T, what string, a []string, b []string) {
	t.Helper()
	where := map[*byte]bool{}
	for _, text := range a {
		if len(text) > 1 {
			where[unsafe.StringData(text)] = true
		}
	}
	for _, text := range b {
		if len(text) > 1 && where[unsafe.StringData(text)] {
			t.Fatalf("%s: two answers share the text %s", what, shown(text))
		}
	}
}

func checkFilesRight(t *testing.T, what string, l []impl.File, want bool) {
	t.Helper()
	same(t, what+": as the test has it", wantFilesRight(l), want)
	m := &softMemory{}
	given := m.files(l)
	for range 2 {
		same(t, what, impl.FilesRight(given), want)
		listUnchanged(t, what, given, l, behindFiles())
	}
}

// checkNodes also tells them, and reads them back.
func checkNodes(t *testing.T, what string, l []impl.Node, want bool) {
	t.Helper()
	same(t, what+": as the test has it", wantNodesRight(l), want)
	m, text := &softMemory{}, ""
	if want {
		text = nodesBytes(l)
	}
	given := m.nodes(l)
	for range 2 {
		same(t, what, impl.NodesRight(given), want)
		nodesUnchanged(t, what, given, l)
	}
	telling[string]{what + ": bytes", m,
		func() string { return impl.NodesBytes(given) },
		func(what string) { nodesUnchanged(t, what, given, l) },
		func(what string, got string) { same(t, what, got, text) },
		func(got string) []string { return []string{got} },
		func(string) {}}.twice(t)
	// The bytes of what is not right may be those of other nodes: of two keys with 31 and 33 bytes.
	back := checkNodesRead(t, nodesBytes(l))
	if want && len(text) > 20000 {
		same(t, what+": too many bytes", back.Code, impl.ErrSize)
	} else if want {
		same(t, what+": back", back.Code, impl.OK)
		sameNodes(t, what+": back", impl.NodesRead(text).Nodes, l)
	}
}

func textsOfNodes(out impl.NodesOut) []string {
	var l []string
	for _, n := range out.Nodes {
		l = append(append(l, n.Name), n.Keys...)
	}
	return l
}

// checkNodesRead also asks that nodes that are read have just these bytes.
func checkNodesRead(t *testing.T, text string) impl.NodesOut {
	t.Helper()
	what := fmt.Sprintf("NodesRead of %d bytes", len(text))
	want, m := wantNodesRead(text), &softMemory{}
	given := m.text(text)
	told := func(what string, got impl.NodesOut) {
		t.Helper()
		same(t, what+": code", got.Code, want.Code)
		sameNodes(t, what, got.Nodes, want.Nodes)
		if want.Code == impl.OK {
			same(t, what+": bytes", impl.NodesBytes(got.Nodes), text)
			same(t, what+": right", impl.NodesRight(got.Nodes), true)
		}
	}
	wreck := func(got impl.NodesOut) {
		for i := range got.Nodes {
			wrecked(got.Nodes[i].Keys)
			sameNodes(t, what+": apart", got.Nodes[i+1:], want.Nodes[i+1:])
		}
		wrecked(got.Nodes)
	}
	telling[impl.NodesOut]{what, m,
		func() impl.NodesOut { return impl.NodesRead(given) },
		func(what string) { same(t, what+": text", given, text) },
		told, textsOfNodes, wreck}.twice(t)
	return want
}

// noNodes is of texts that are no nodes' bytes, and are not too long.
func noNodes(t *testing.T, what string, text string) {
	t.Helper()
	checkNodesRead(t, text)
	got := impl.NodesRead(text)
	same(t, what+": code", got.Code, impl.ErrSyntax)
	same(t, what+": nodes", len(got.Nodes), 0)
}

func checkMake(t *testing.T, what string, c impl.Cutting, l []impl.File) impl.TreeOut {
	t.Helper()
	what = fmt.Sprintf("TreeMake by %+v of %d files, %s", c, len(l), what)
	want, m := wantTree(c, l), &softMemory{}
	given := m.files(l)
	told := func(what string, got impl.TreeOut) {
		t.Helper()
		same(t, what+": code", got.Code, want.Code)
		same(t, what+": root", got.Root, want.Root)
		sameList(t, what, got.Blobs, want.Blobs)
	}
	texts := func(out impl.TreeOut) []string {
		l := []string{out.Root}
		for _, b := range out.Blobs {
			l = append(l, b.Text)
		}
		return l
	}
	telling[impl.TreeOut]{what, m,
		func() impl.TreeOut { return impl.TreeMake(c, given) },
		func(what string) { listUnchanged(t, what, given, l, behindFiles()) },
		told, texts, func(out impl.TreeOut) { wrecked(out.Blobs) }}.twice(t)
	return want
}

// A walked tree is what TreeFiles and TreeKeys tell of it.
type walked struct {
	out  impl.FilesOut
	keys []string
}

func (w walked) texts() []string {
	l := slices.Clone(w.keys)
	for _, f := range w.out.Files {
		l = append(l, f.Path, f.Text)
	}
	return l
}

func checkWalk(t *testing.T, what string, blobs []impl.Blob, root string) impl.FilesOut {
	t.Helper()
	what = fmt.Sprintf("a walk in %d blobs, %s", len(blobs), what)
	want, keys := wantWalk(blobs, root)
	m := &softMemory{}
	given, asked := m.blobs(blobs), m.text(root)
	unchanged := func(what string) {
		t.Helper()
		listUnchanged(t, what, given, blobs, behindBlobs())
		same(t, what+": root", asked, root)
	}
	told := func(what string, got walked) {
		t.Helper()
		same(t, what+": code", got.out.Code, want.Code)
		sameList(t, what+": files", got.out.Files, want.Files)
		same(t, what+": right", impl.FilesRight(got.out.Files), true)
		sameList(t, what+": keys", got.keys, keys)
	}
	wreck := func(got walked) {
		wrecked(got.out.Files)
		wrecked(got.keys)
	}
	telling[walked]{what, m,
		func() walked { return walked{impl.TreeFiles(given, asked), impl.TreeKeys(given, asked)} },
		unchanged, told, walked.texts, wreck}.twice(t)
	return want
}

// walkTells asks for a code, and for no files beside it, unless it is OK.
func walkTells(t *testing.T, what string, blobs []impl.Blob, root string, code int64) {
	t.Helper()
	same(t, what+": as the test has it", checkWalk(t, what, blobs, root).Code, code)
	got := impl.TreeFiles(blobs, root)
	same(t, what+": code", got.Code, code)
	if code != impl.OK {
		sameList(t, what+": no files", got.Files, nil)
		sameList(t, what+": no keys", impl.TreeKeys(blobs, root), nil)
	}
}

func TestTreeConstants(t *testing.T) {
	same(t, "MaxTree", impl.MaxTree, 20)
	same(t, "MaxDeep", impl.MaxDeep, 5)
	same(t, "MaxFile", impl.MaxFile, 1500)
	same(t, "MaxNodes", impl.MaxNodes, 200)
}

// numberedFiles are right, if they are not too many; there are as many of them with two names as with one.
func numberedFiles(count int) []impl.File {
	var l []impl.File
	for i := range count {
		l = append(l, impl.File{Path: fmt.Sprintf("f%03d", i) + []string{"", "/x"}[i%2], Text: letters(i % 30)})
	}
	return l
}

func TestFilesRightByCounts(t *testing.T) {
	for _, count := range []int{0, 1, 2, 19, 20, 21, 22, 399, 400, 401, 800} {
		checkFilesRight(t, fmt.Sprint(count, " files"), numberedFiles(count), count <= 20)
	}
	checkFilesRight(t, "nil", nil, true)
	checkFilesRight(t, "the zero one", []impl.File{{}}, false)
}

// checkPath asks whether a path is one, alone and among others that rise with it.
func checkPath(t *testing.T, path string, want bool) {
	t.Helper()
	what := fmt.Sprintf("path %q", short(path))
	checkFilesRight(t, what, []impl.File{{Path: path}}, want)
	for _, l := range [][]impl.File{
		{{Path: path}, {Path: "zzz"}},
		{{Path: "a"}, {Path: path}},
		{{Path: "a"}, {Path: path}, {Path: "zzz"}},
	} {
		rising := slices.IsSortedFunc(l, func(a, b impl.File) int { return strings.Compare(a.Path, b.Path) })
		if rising && path != "a" && path != "zzz" && !strings.HasPrefix(path, "a/") {
			checkFilesRight(t, what+" among others", l, want)
		}
	}
}

func TestFilesRightByNamesInAPath(t *testing.T) {
	for count := 1; count <= 12; count++ {
		for _, name := range []string{"b", "b-1", strings.Repeat("b", 80)} {
			checkPath(t, strings.Join(slices.Repeat([]string{name}, count), "/"), count <= 5)
		}
	}
	for _, path := range []string{"", "/", "//", "///", "/b", "b/", "b//c", "/b/c", "b/c/", "//b", "b//", "b/c//d", "b/c/d/e/f/", "/b/c/d/e/f",
		"b//c/d/e", "b/c/d/e/", "b\\c", "b/.", "b/..", "./b", ".", "b /c", "b/ c", "b\n", "b/c\n", "b\x00/c"} {
		checkPath(t, path, false)
	}
	for count := 1; count <= 6; count++ {
		for at := range count {
			names := slices.Repeat([]string{"b"}, count)
			for _, name := range rightNames() {
				names[at] = name
				checkPath(t, strings.Join(names, "/"), count <= 5)
			}
			for _, name := range wrongNames() {
				names[at] = name
				checkPath(t, strings.Join(names, "/"), name == "a/b" && count <= 4)
			}
			for _, size := range []int{0, 1, 79, 80, 81, 82, 160, 400, 404, 405} {
				names[at] = strings.Repeat("b", size)
				checkPath(t, strings.Join(names, "/"), size >= 1 && size <= 80 && count <= 5)
			}
		}
	}
	for b := range 256 {
		sign := string([]byte{byte(b)})
		letter := b >= 'a' && b <= 'z'
		within := letter || b >= '0' && b <= '9' || b == '-'
		checkPath(t, sign, letter)
		checkPath(t, "c/"+sign, letter)
		checkPath(t, "c"+sign, within)
		checkPath(t, "c/d"+sign, within)
		checkPath(t, "c"+sign+"d", within || b == '/')
		checkPath(t, sign+"/c", letter)
	}
}

func TestFilesRightByTexts(t *testing.T) {
	for _, size := range []int{0, 1, 1499, 1500, 1501, 1502, 3000, impl.MaxBytes, impl.MaxBytes + 1} {
		for _, count := range []int{1, 2, 3, 20} {
			for _, at := range somePlaces(count) {
				l := numberedFiles(count)
				l[at].Text = letters(size)
				checkFilesRight(t, fmt.Sprint(size, " bytes at ", at, " of ", count), l, size <= 1500)
			}
		}
	}
	full := numberedFiles(20)
	for i := range full {
		full[i].Text = letters(1500)
	}
	checkFilesRight(t, "all of the most bytes", full, true)
}

func filesOf(paths ...string) []impl.File {
	var l []impl.File
	for _, path := range paths {
		l = append(l, impl.File{Path: path, Text: "text of " + path})
	}
	return l
}

func TestFilesRightByOrder(t *testing.T) {
	for _, count := range []int{2, 3, 20} {
		for _, at := range somePlaces(count - 1) {
			l := numberedFiles(count)
			l[at], l[at+1] = l[at+1], l[at]
			checkFilesRight(t, fmt.Sprint("turned at ", at, " of ", count), l, false)
			l[at] = l[at+1]
			checkFilesRight(t, fmt.Sprint("twice at ", at, " of ", count), l, false)
			l[at].Text += "!"
			checkFilesRight(t, fmt.Sprint("twice with another text at ", at, " of ", count), l, false)
		}
	}
	apart := numberedFiles(10)
	apart[9] = apart[0]
	checkFilesRight(t, "twice, but not side by side", apart, false)
	for _, pair := range [][2]string{{"a", "b"}, {"a", "ab"}, {"ab", "b"}, {"a-b", "a/b"}, {"a/b", "a0"}, {"a/b", "aa"}, {"a/b", "ab"}, {"a-", "a/b"},
		{"a-/z", "a/b"}, {"a/b", "a/c"}, {"a/b-", "a/b/c"}, {"a/z", "a0/a"}, {"a/b/c", "a/b0"}, {"a/b/c", "b"}, {"a-b/c", "a/b"}, {"a/a/a/a/a", "a/a/a/a/b"}} {
		checkFilesRight(t, fmt.Sprint(pair), filesOf(pair[0], pair[1]), true)
		checkFilesRight(t, fmt.Sprint(pair, " turned"), filesOf(pair[1], pair[0]), false)
	}
}

func TestFilesRightByDirectories(t *testing.T) {
	for _, paths := range [][]string{
		{"a", "a/b"}, {"a", "a/b/c"}, {"a", "a/b/c/d/e"}, {"a/b", "a/b/c"}, {"a/b/c/d", "a/b/c/d/e"}, {"a/b", "a/b/c/d"},
		{"a", "a-b", "a/c"}, {"a", "a-", "a--", "a/c"}, {"a", "a-/b", "a/c"}, {"a", "a-b", "a-c/d", "a/c", "b"},
		{"a", "b", "b/c"}, {"a/a", "a/b", "a/b-", "a/b-/c"}, {"b", "b-a", "b-b", "b-c", "b/a", "c"}, {"ab", "ab/a", "b"},
		{"a/b", "a/b-c", "a/b/d"}, {"a/b", "a/b-c/d", "a/b/d"}, {"a", "a-0", "a-1", "a-2", "a-3", "a-4", "a/a/a"},
	} {
		same(t, "rising", slices.IsSorted(paths), true)
		checkFilesRight(t, fmt.Sprint(paths), filesOf(paths...), false)
		checkFilesRight(t, fmt.Sprint(paths, " without the last"), filesOf(paths[:1]...), true)
	}
	for _, paths := range [][]string{
		{"a", "ab/c"}, {"a", "aa/a"}, {"ab", "b"}, {"a-b", "a/c"}, {"a-b", "a-c", "a/c", "b"}, {"a", "a-/c"}, {"a/b", "ab"}, {"a/b", "ab/b"}, {"a", "b/a"},
		{"a/a", "b/a"}, {"a", "a-b/a", "b/a"}, {"a/b-c", "a/b/c"}, {"a/b", "a/b-/c"}, {"b", "c/b", "d/b/b"}, {"a/a/a/a/a", "b"}, {"a", "a0/a", "b/a/a"},
	} {
		same(t, "rising", slices.IsSorted(paths), true)
		checkFilesRight(t, fmt.Sprint(paths), filesOf(paths...), true)
	}
	// The file at one place is the directory of that at another one, with all of the others between, ahead, or behind.
	for first := range 19 {
		for second := first + 1; second < 20; second++ {
			l := filesOf()
			for i := range 20 {
				path := fmt.Sprintf("c-%02d", i)
				if i < first {
					path = fmt.Sprintf("b%02d", i)
				} else if i == first {
					path = "c"
				} else if i == second {
					path = "c/x"
				} else if i > second {
					path = fmt.Sprintf("d%02d", i)
				}
				l = append(l, impl.File{Path: path})
			}
			checkFilesRight(t, fmt.Sprint(first, " of ", second), l, false)
			l[second].Path = "cx"
			checkFilesRight(t, fmt.Sprint(first, " beside ", second), l, true)
		}
	}
}

func drawnPath(r *rand.Rand) string {
	names := []string{"a", "b", "a-", "a-b", "ab", "a0", "z", "a", "b", strings.Repeat("n", 80)}
	var l []string
	for range 1 + r.Intn(5) {
		l = append(l, names[r.Intn(len(names))])
	}
	return strings.Join(l, "/")
}

func drawnFileText(r *rand.Rand, most int) string {
	switch r.Intn(5) {
	case 0:
		return ""
	case 1:
		return letters(min(most, 100))
	case 2:
		return strings.Repeat("\x00", r.Intn(most+1))
	case 3:
		return echoes(r, r.Intn(most+1))
	}
	return drawnText(r, r.Intn(most+1))
}

// drawnFiles are right, each of at most so many bytes.
func drawnFiles(r *rand.Rand, count int, most int) []impl.File {
	texts := map[string]string{}
	for range r.Intn(count + 1) {
		path := drawnPath(r)
		fits := true
		for other := range texts {
			fits = fits && !strings.HasPrefix(other+"/", path+"/") && !strings.HasPrefix(path+"/", other+"/")
		}
		if fits {
			texts[path] = drawnFileText(r, most)
		}
	}
	var l []impl.File
	for _, path := range slices.Sorted(maps.Keys(texts)) {
		l = append(l, impl.File{Path: path, Text: texts[path]})
	}
	return l
}

func TestFilesRightOfDrawnOnes(t *testing.T) {
	r := rand.New(rand.NewSource(141))
	wrong := 0
	for range 2000 {
		l := drawnFiles(r, 20, 40)
		checkFilesRight(t, "drawn", l, true)
		l = append(l, filesOf(drawnPath(r), drawnPath(r))[:r.Intn(2)]...)
		if r.Intn(8) > 0 {
			slices.SortFunc(l, func(a, b impl.File) int { return strings.Compare(a.Path, b.Path) })
		}
		if !wantFilesRight(l) {
			wrong++
		}
		checkFilesRight(t, "drawn, with others", l, wantFilesRight(l))
	}
	same(t, "enough that are not right", wrong > 200, true)
}

// A key that is no blob's, but looks as one.
func keyOf(n int) string {
	return sha(fmt.Sprint("key ", n))
}

func keysOf(count int) []string {
	var l []string
	for i := range count {
		l = append(l, keyOf(i))
	}
	return l
}

// numberedNodes are right, if they are not too many; each other one is a directory.
func numberedNodes(count int) []impl.Node {
	var l []impl.Node
	for i := range count {
		n := impl.Node{Name: fmt.Sprintf("n%03d", i), Dir: true, Keys: []string{keyOf(i)}}
		if i%2 == 1 {
			n = impl.Node{Name: n.Name, Size: int64(i * 70 % 1501), Keys: keysOf(i % 5)}
		}
		l = append(l, n)
	}
	return l
}

func TestNodesRightByCounts(t *testing.T) {
	for _, count := range []int{0, 1, 2, 19, 20, 21, 22, 63, 64, 399, 400, 401, 800} {
		checkNodes(t, fmt.Sprint(count, " nodes"), numberedNodes(count), count <= 20)
	}
	checkNodes(t, "nil", nil, true)
	checkNodes(t, "empty", []impl.Node{}, true)
	checkNodes(t, "the zero one", []impl.Node{{}}, false)
}

// checkNode asks whether nodes of which the first, a middle, or the last one is changed so are right.
func checkNode(t *testing.T, what string, want bool, change func(n *impl.Node)) {
	t.Helper()
	for _, count := range []int{1, 2, 3, 20} {
		for _, at := range somePlaces(count) {
			l := numberedNodes(count)
			change(&l[at])
			checkNodes(t, fmt.Sprint(what, " at ", at, " of ", count), l, want)
		}
	}
}

func TestNodesRightByNames(t *testing.T) {
	alone := func(name string, want bool) {
		t.Helper()
		what := fmt.Sprintf("name %q", short(name))
		checkNodes(t, what+", a file", []impl.Node{{Name: name}}, want)
		checkNodes(t, what+", a directory", []impl.Node{{Name: name, Dir: true, Keys: keysOf(1)}}, want)
	}
	for _, name := range rightNames() {
		alone(name, true)
	}
	for _, name := range wrongNames() {
		alone(name, false)
	}
	for b := range 256 {
		letter := b >= 'a' && b <= 'z'
		alone(string([]byte{byte(b)}), letter)
		alone("a"+string([]byte{byte(b)}), letter || b >= '0' && b <= '9' || b == '-')
	}
	for _, size := range []int{0, 1, 62, 63, 64, 65, 79, 80, 81, 82, 127, 128, 400} {
		alone(strings.Repeat("n", size), size >= 1 && size <= 80)
	}
	for _, end := range []string{"", "-", "a", "A", "/", "/a", "_", "\x00", "\xff"} {
		checkNode(t, fmt.Sprintf("a name ending with %q", end), end == "" || end == "-" || end == "a", func(n *impl.Node) { n.Name += end })
	}
	checkNode(t, "no name", false, func(n *impl.Node) { n.Name = "" })
}

func TestNodesRightByOrder(t *testing.T) {
	for _, count := range []int{2, 3, 20} {
		for _, at := range somePlaces(count - 1) {
			l := numberedNodes(count)
			l[at], l[at+1] = l[at+1], l[at]
			checkNodes(t, fmt.Sprint("turned at ", at, " of ", count), l, false)
			l = numberedNodes(count)
			l[at].Name = l[at+1].Name
			checkNodes(t, fmt.Sprint("one name twice at ", at, " of ", count), l, false)
			l[at] = l[at+1]
			checkNodes(t, fmt.Sprint("twice at ", at, " of ", count), l, false)
		}
	}
	apart := numberedNodes(10)
	apart[9] = apart[0]
	checkNodes(t, "twice, but not side by side", apart, false)
	for _, pair := range [][2]string{{"a", "b"}, {"a", "a-"}, {"a", "a0"}, {"a", "aa"}, {"a-", "a-b"}, {"a-b", "a0"}, {"a-b", "ab"}, {"ab", "b"}, {"a0", "aa"}} {
		for _, dirs := range [][2]bool{{false, false}, {true, false}, {false, true}, {true, true}} {
			a := impl.Node{Name: pair[0], Dir: dirs[0], Keys: keysOf(1)}
			b := impl.Node{Name: pair[1], Dir: dirs[1], Keys: keysOf(1)}
			checkNodes(t, fmt.Sprint(pair, dirs), []impl.Node{a, b}, true)
			checkNodes(t, fmt.Sprint(pair, dirs, " turned"), []impl.Node{b, a}, false)
			b.Name = a.Name
			checkNodes(t, fmt.Sprint(pair, dirs, " of one name"), []impl.Node{a, b}, false)
		}
	}
}

func TestNodesRightBySizes(t *testing.T) {
	for _, size := range append(edges(impl.MaxFile), 2, 63, 64, 2000, 2001) {
		checkNode(t, fmt.Sprint("a directory of Size ", size), size == 0, func(n *impl.Node) {
			*n = impl.Node{Name: n.Name, Dir: true, Size: size, Keys: keysOf(1)}
		})
		for _, keys := range []int{0, 1, 3} {
			checkNode(t, fmt.Sprint("a file of Size ", size, " and ", keys, " keys"), size >= 0 && size <= 1500, func(n *impl.Node) {
				*n = impl.Node{Name: n.Name, Size: size, Keys: keysOf(keys)}
			})
		}
	}
}

func TestNodesRightByKeys(t *testing.T) {
	for _, count := range []int{0, 1, 2, 3, 20, 21, 63, 64, 99, 100, 101, 102, 400, 401} {
		for _, dir := range []bool{false, true} {
			want := !dir && count <= 100 || dir && count == 1
			checkNode(t, fmt.Sprint(count, " keys, directory ", dir), want, func(n *impl.Node) {
				*n = impl.Node{Name: n.Name, Dir: dir, Keys: keysOf(count)}
			})
		}
	}
	for _, size := range []int{0, 1, 16, 30, 31, 32, 33, 34, 64, 320} {
		for _, count := range []int{1, 2, 3, 100} {
			for _, at := range somePlaces(count) {
				checkNode(t, fmt.Sprint("key ", at, " of ", count, " has ", size, " bytes"), size == 32, func(n *impl.Node) {
					*n = impl.Node{Name: n.Name, Dir: count == 1 && at == 0, Keys: keysOf(count)}
					n.Keys[at] = (n.Keys[at] + strings.Repeat("k", 320))[:size]
				})
			}
		}
	}
	// Keys need not rise, and one may be there twice; each byte may stand in them.
	checkNode(t, "the same key again and again", true, func(n *impl.Node) { *n = impl.Node{Name: n.Name, Keys: slices.Repeat(keysOf(1), 100)} })
	checkNode(t, "keys that fall", true, func(n *impl.Node) {
		*n = impl.Node{Name: n.Name, Keys: []string{strings.Repeat("\xff", 32), strings.Repeat("a", 32), strings.Repeat("\x00", 32)}}
	})
	checkNode(t, "keys of 31 and 33 bytes", false, func(n *impl.Node) {
		*n = impl.Node{Name: n.Name, Keys: []string{strings.Repeat("a", 31), strings.Repeat("a", 33)}}
	})
}

func TestNodesBytesKnown(t *testing.T) {
	for _, none := range [][]impl.Node{nil, {}} {
		same(t, "of no nodes", impl.NodesBytes(none), "\x00")
	}
	same(t, "no nodes", impl.NodesRead("\x00").Code, impl.OK)
	same(t, "no nodes", len(impl.NodesRead("\x00").Nodes), 0)
	a, b := strings.Repeat("a", 32), strings.Repeat("\xff", 32)
	l := []impl.Node{{Name: "d", Dir: true, Keys: []string{a}}, {Name: "e"}, {Name: "f-1", Size: 1500, Keys: []string{b, a, b}}, {Name: strings.Repeat("n", 64), Size: 64}}
	want := "\x08" + "\x02d\x02\x00\x02" + a + "\x02e\x00\x00\x00" + "\x06f-1\x00\xb8\x17\x06" + b + a + b +
		"\x80\x01" + strings.Repeat("n", 64) + "\x00\x80\x01\x00"
	checkNodes(t, "known", l, true)
	same(t, "bytes", impl.NodesBytes(l), want)
	sameNodes(t, "back", impl.NodesRead(want).Nodes, l)
	hundred := []impl.Node{{Name: "f", Keys: keysOf(100)}}
	same(t, "a hundred keys", impl.NodesBytes(hundred), "\x02\x02f\x00\x00\xc8\x01"+strings.Join(keysOf(100), ""))
}

func TestNodesBytesOfWhatIsNotRight(t *testing.T) {
	for _, count := range []int{21, 400, 401} {
		same(t, "too many", impl.NodesBytes(numberedNodes(count)), "")
	}
	for _, n := range []impl.Node{{}, {Name: "A"}, {Name: "a", Dir: true}, {Name: "a", Dir: true, Keys: keysOf(2)}, {Name: "a", Dir: true, Size: 1, Keys: keysOf(1)},
		{Name: "a", Size: -1}, {Name: "a", Size: 1501}, {Name: "a", Keys: keysOf(101)}, {Name: "a", Keys: []string{"k"}}} {
		checkNodes(t, "not right", []impl.Node{n}, false)
		same(t, shown(n), impl.NodesBytes([]impl.Node{n}), "")
	}
	for _, faults := range [][2]int64{{math.MinInt64, 1}, {math.MaxInt64, 1}, {math.MinInt64, 0}, {math.MaxInt64, 0}} {
		same(t, "Size", impl.NodesBytes([]impl.Node{{Name: "a", Dir: faults[1] == 1, Size: faults[0], Keys: keysOf(1)}}), "")
	}
}

// nodesOfSize are right nodes whose bytes are of that size.
func nodesOfSize(t *testing.T, size int) []impl.Node {
	t.Helper()
	var l []impl.Node
	for i := range 20 {
		l = append(l, impl.Node{Name: string(rune('a' + i)), Keys: keysOf(30)})
	}
	for i := range l {
		l[i].Name += strings.Repeat("-", min(size-len(nodesBytes(l)), 60))
	}
	same(t, "bytes", len(nodesBytes(l)), size)
	return l
}

func TestNodesOfMostBytes(t *testing.T) {
	for _, size := range []int{19301, impl.MaxBytes - 1, impl.MaxBytes, impl.MaxBytes + 1, impl.MaxBytes + 2} {
		l := nodesOfSize(t, size)
		checkNodes(t, fmt.Sprint(size, " bytes"), l, true)
		same(t, "bytes", len(impl.NodesBytes(l)), size)
		got := impl.NodesRead(nodesBytes(l))
		if size > 20000 {
			same(t, "too many bytes", got.Code, impl.ErrSize)
			same(t, "nothing beside it", len(got.Nodes), 0)
			continue
		}
		same(t, "code", got.Code, impl.OK)
		sameNodes(t, "back", got.Nodes, l)
	}
	var most []impl.Node
	for i := range 20 {
		most = append(most, impl.Node{Name: fmt.Sprintf("n%079d", i), Size: 1500, Keys: keysOf(100)})
	}
	checkNodes(t, "as many bytes as there may be", most, true)
	same(t, "all of them", impl.NodesBytes(most), nodesBytes(most))
	same(t, "too many", impl.NodesRead(nodesBytes(most)).Code, impl.ErrSize)
	for _, text := range []string{letters(impl.MaxBytes), strings.Repeat("\x00", impl.MaxBytes), strings.Repeat("\x80", impl.MaxBytes), strings.Repeat("\x02", impl.MaxBytes)} {
		noNodes(t, "of MaxBytes bytes", text)
		for _, more := range []string{"\x00", "x", text} {
			checkNodesRead(t, text+more)
			same(t, "of more", impl.NodesRead(text+more).Code, impl.ErrSize)
		}
	}
}

func drawnNode(r *rand.Rand, name string) impl.Node {
	if r.Intn(3) == 0 {
		return impl.Node{Name: name, Dir: true, Keys: []string{drawnKey(r)}}
	}
	n := impl.Node{Name: name, Size: []int64{0, 1, 63, 64, 1500, r.Int63n(1501)}[r.Intn(6)]}
	for range []int{0, 1, 2, r.Intn(20), r.Intn(101)}[r.Intn(5)] {
		n.Keys = append(n.Keys, drawnKey(r))
	}
	return n
}

// drawnNodes are right.
func drawnNodes(r *rand.Rand, most int) []impl.Node {
	names := map[string]bool{}
	for range r.Intn(most + 1) {
		names[drawnName(r)] = true
	}
	var l []impl.Node
	for _, name := range slices.Sorted(maps.Keys(names)) {
		l = append(l, drawnNode(r, name))
	}
	return l
}

// Promise 17.
func TestNodesComeBack(t *testing.T) {
	r := rand.New(rand.NewSource(142))
	for i := range 600 {
		l := drawnNodes(r, []int{1, 3, 20}[i%3])
		checkNodes(t, "drawn", l, true)
		text := impl.NodesBytes(l)
		if len(text) <= impl.MaxBytes {
			got := impl.NodesRead(text)
			same(t, "code", got.Code, impl.OK)
			sameNodes(t, "back", got.Nodes, l)
		}
	}
	for count := range 21 {
		sameNodes(t, "back", impl.NodesRead(impl.NodesBytes(numberedNodes(count))).Nodes, numberedNodes(count))
	}
}

// Promise 17.
func TestNodesThatAreChanged(t *testing.T) {
	r := rand.New(rand.NewSource(143))
	for _, l := range [][]impl.Node{
		nil, numberedNodes(1), numberedNodes(4), {{Name: "a"}}, {{Name: "a"}, {Name: "b"}, {Name: "c"}},
		{{Name: "d", Dir: true, Keys: []string{strings.Repeat("\x00", 32)}}, {Name: "f", Size: 64, Keys: []string{strings.Repeat("\x02", 32), strings.Repeat("F", 32)}}},
		{{Name: "a"}, {Name: "b", Size: 1500, Keys: keysOf(1)}, {Name: strings.Repeat("c", 64), Dir: true, Keys: keysOf(1)}},
	} {
		text := nodesBytes(l)
		others, told := changedBytes(r, text), 0
		for _, other := range others {
			if checkNodesRead(t, other).Code == impl.OK {
				told++
				same(t, "just these bytes", impl.NodesBytes(impl.NodesRead(other).Nodes), other)
			}
		}
		same(t, "not all of them are told", told < len(others), true)
		for at := range len(text) {
			noNodes(t, fmt.Sprint("cut off at ", at), text[:at])
		}
		for b := range 256 {
			noNodes(t, "with a byte behind", text+string([]byte{byte(b)}))
		}
		noNodes(t, "with itself behind", text+text)
		noNodes(t, "with a node behind", text+nodeBytes(impl.Node{Name: "z"}))
		noNodes(t, "with a key behind", text+keyOf(1))
	}
	// Each byte that may stand in the place of one.
	text := nodesBytes([]impl.Node{{Name: "d", Dir: true, Keys: keysOf(1)}, {Name: "f", Size: 70, Keys: keysOf(1)}})
	for at := range text {
		for b := range 256 {
			other := text[:at] + string([]byte{byte(b)}) + text[at+1:]
			got, want := impl.NodesRead(other), wantNodesRead(other)
			same(t, "code", got.Code, want.Code)
			sameNodes(t, "nodes", got.Nodes, want.Nodes)
		}
	}
}

// Promise 17.
func TestNodesReadOfDrawnBytes(t *testing.T) {
	r := rand.New(rand.NewSource(144))
	noNodes(t, "the empty text", "")
	for b := range 256 {
		text := string([]byte{byte(b)})
		checkNodesRead(t, text)
		same(t, "one byte", impl.NodesRead(text).Code == impl.OK, b == 0)
	}
	for range 1000 {
		checkNodesRead(t, drawnText(r, r.Intn(100)))
		checkNodesRead(t, varint(r.Int63n(4))+drawnText(r, r.Intn(100)))
		checkNodesRead(t, varint(1)+varint(1)+"n"+drawnText(r, r.Intn(80)))
	}
	// Parts that are nearly right, put together as they come.
	for range 3000 {
		l := drawnNodes(r, 3)
		for i := range l {
			switch r.Intn(12) {
			case 0:
				l[i].Dir = !l[i].Dir
			case 1:
				l[i].Size = edges(impl.MaxFile)[r.Intn(13)]
			case 2:
				l[i].Name = wrongNames()[r.Intn(30)]
			case 3:
				l[i].Keys = append(l[i].Keys, keysOf(r.Intn(3))...)
			case 4:
				l[i].Name = l[0].Name
			}
		}
		checkNodesRead(t, countedNodes(int64(len(l)+r.Intn(8)/7), l))
	}
}

func TestNodesReadOfCounts(t *testing.T) {
	for _, there := range []int{0, 1, 2, 19, 20, 21, 22, 64} {
		l := numberedNodes(there)
		for _, count := range []int64{-1, -2, -20, 0, 1, int64(there) - 1, int64(there), int64(there) + 1, 19, 20, 21, 400, 401,
			256, 256 + int64(there), 1<<32 + int64(there), math.MinInt64, math.MinInt64 + 1, math.MaxInt64} {
			text := countedNodes(count, l)
			checkNodesRead(t, text)
			what := fmt.Sprint(count, " told of ", there)
			right := count == int64(there) && there <= 20
			same(t, what, impl.NodesRead(text).Code == impl.OK, right)
			if !right {
				noNodes(t, what, text)
			}
		}
	}
}

// nodeTold tells one node, by numbers that need not be its own.
func nodeTold(name string, dir int64, size int64, count int64, keys []string) string {
	return varint(1) + varint(int64(len(name))) + name + varint(dir) + varint(size) + varint(count) + strings.Join(keys, "")
}

func TestNodesReadOfDirectories(t *testing.T) {
	for _, dir := range []int64{-2, -1, 0, 1, 2, 3, 64, 127, 128, 255, 256, 257, 1 << 32, 1<<32 + 1, math.MinInt64, math.MinInt64 + 1, math.MaxInt64} {
		for _, size := range []int64{0, 1, 1500} {
			for keys := range 3 {
				text := nodeTold("n", dir, size, int64(keys), keysOf(keys))
				want := dir == 0 || dir == 1 && size == 0 && keys == 1
				same(t, "as the test has it", checkNodesRead(t, text).Code == impl.OK, want)
				got := impl.NodesRead(text)
				same(t, fmt.Sprint("number ", dir, " of ", size, " bytes and ", keys, " keys"), got.Code == impl.OK, want)
				if want {
					same(t, "directory", got.Nodes[0].Dir, dir == 1)
				} else {
					noNodes(t, fmt.Sprint("number ", dir), text)
				}
			}
		}
	}
}

func TestNodesReadOfKeys(t *testing.T) {
	for _, there := range []int{0, 1, 2, 99, 100, 101, 102, 400} {
		for _, count := range []int64{-1, -2, -100, 0, 1, int64(there) - 1, int64(there), int64(there) + 1, 99, 100, 101, 256 + int64(there),
			1<<32 + int64(there), math.MinInt64, math.MaxInt64, math.MaxInt64 / 32, 1 << 59, 1<<59 + 1, 1<<58 + int64(there)} {
			text := nodeTold("n", 0, 7, count, keysOf(there))
			want := count == int64(there) && there <= 100
			checkNodesRead(t, text)
			same(t, fmt.Sprint(count, " keys told of ", there), impl.NodesRead(text).Code == impl.OK, want)
			if !want {
				noNodes(t, fmt.Sprint(count, " keys told of ", there), text)
			}
		}
		for more := 1; more < 32; more++ {
			noNodes(t, "a part of a key more", nodeTold("n", 0, 7, int64(there), keysOf(there))+keyOf(there)[:more])
			noNodes(t, "a part of a key told as one", nodeTold("n", 0, 7, int64(there)+1, keysOf(there))+keyOf(there)[:more])
		}
	}
}

func TestNodesReadOfLongNumbers(t *testing.T) {
	for _, n := range [][3]int64{{0, 0, 0}, {1, 0, 1}, {0, 64, 1}, {0, 1500, 2}, {0, 63, 64}} {
		told := []string{varint(1), varint(1), "n", varint(n[0]), varint(n[1]), varint(n[2]), strings.Join(keysOf(int(n[2])), "")}
		same(t, "as it is to be", checkNodesRead(t, strings.Join(told, "")).Code, impl.OK)
		same(t, "as it is to be", impl.NodesRead(strings.Join(told, "")).Code, impl.OK)
		for at, number := range map[int]int64{0: 1, 1: 1, 3: n[0], 4: n[1], 5: n[2]} {
			for _, long := range []string{longNumber(number), longNumber(number)[:len(varint(number))] + "\x80\x00", varint(number) + "\x00",
				"", "\x80", "\xff", strings.Repeat("\x80", 10), strings.Repeat("\xff", 9) + "\x02", varint(-number - 1)} {
				other := slices.Clone(told)
				other[at] = long
				text := strings.Join(other, "")
				checkNodesRead(t, text)
				same(t, fmt.Sprintf("number %d as %q", at, long), impl.NodesRead(text).Code, wantNodesRead(text).Code)
			}
			other := slices.Clone(told)
			other[at] = longNumber(number)
			noNodes(t, fmt.Sprint("number ", at, " by a byte more"), strings.Join(other, ""))
		}
	}
	noNodes(t, "no nodes, by two bytes", "\x80\x00")
	noNodes(t, "no nodes, by ten bytes", strings.Repeat("\x80", 9)+"\x00")
}

func TestNodesReadOfNames(t *testing.T) {
	for _, name := range wrongNames() {
		text := nodeTold(name, 0, 0, 0, nil)
		checkNodesRead(t, text)
		if len(text) <= impl.MaxBytes {
			noNodes(t, fmt.Sprintf("name %q", short(name)), text)
		}
	}
	for _, size := range []int64{-1, 0, 1, 3, 5, 80, 81, 256 + 2, 1<<32 + 2, impl.MaxBytes, impl.MaxBytes + 1, math.MinInt64, math.MaxInt64} {
		noNodes(t, fmt.Sprint("a name of 2 bytes told to have ", size), varint(1)+varint(size)+"nn\x00\x00\x00")
	}
	same(t, "a right one", impl.NodesRead(varint(1)+varint(2)+"nn\x00\x00\x00").Code, impl.OK)
}

// Small pieces, one for each 16 bytes.
func sixteens() impl.Cutting {
	return impl.Cutting{Min: 16, Bits: 12, Max: 16}
}

// numberedText has so many pieces of sixteens, which no call of it with another first number has.
func numberedText(first int, pieces int) string {
	var out strings.Builder
	for i := range pieces {
		fmt.Fprintf(&out, "%016d", first+i)
	}
	return out.String()
}

func dataBlob(text string) impl.Blob { return impl.Blob{Kind: impl.KindData, Text: text} }

func treeBlob(l ...impl.Node) impl.Blob {
	return impl.Blob{Kind: impl.KindTree, Text: nodesBytes(l)}
}

func fileNode(name string, size int, pieces ...impl.Blob) impl.Node {
	n := impl.Node{Name: name, Size: int64(size)}
	for _, b := range pieces {
		n.Keys = append(n.Keys, wantKey(b))
	}
	return n
}

// fullNode is a file that has just its pieces.
func fullNode(name string, pieces ...impl.Blob) impl.Node {
	size := 0
	for _, b := range pieces {
		size += len(b.Text)
	}
	return fileNode(name, size, pieces...)
}

func dirNode(name string, b impl.Blob) impl.Node {
	return impl.Node{Name: name, Dir: true, Keys: []string{wantKey(b)}}
}

func someCutting() impl.Cutting {
	return impl.Cutting{Min: 16, Bits: 3, Max: 64}
}

// treeTells asks for these blobs, of which the last one is the root's, and that the files come back.
func treeTells(t *testing.T, what string, c impl.Cutting, l []impl.File, blobs ...impl.Blob) {
	t.Helper()
	same(t, what+": as the test has it", checkMake(t, what, c, l).Code, impl.OK)
	got := impl.TreeMake(c, l)
	sameList(t, what, got.Blobs, blobs)
	same(t, what+": root", got.Root, wantKey(blobs[len(blobs)-1]))
	comesBackFromItsTree(t, what, c, l)
}

func comesBackFromItsTree(t *testing.T, what string, c impl.Cutting, l []impl.File) {
	t.Helper()
	tree := impl.TreeMake(c, l)
	same(t, what+": code", tree.Code, impl.OK)
	walkTells(t, what, tree.Blobs, tree.Root, impl.OK)
	sameList(t, what+": back", impl.TreeFiles(tree.Blobs, tree.Root).Files, l)
	var keys []string
	for _, b := range tree.Blobs {
		same(t, what+": a right blob", impl.BlobRight(b), true)
		keys = append(keys, wantKey(b))
	}
	slices.Sort(keys)
	same(t, what+": each once", len(slices.Compact(slices.Clone(keys))), len(keys))
	sameList(t, what+": all keys", impl.TreeKeys(tree.Blobs, tree.Root), keys)
}

func TestTreeMakeKnown(t *testing.T) {
	c := someCutting()
	for _, none := range [][]impl.File{nil, {}} {
		treeTells(t, "no files", c, none, impl.Blob{Kind: 2, Text: "\x00"})
	}
	treeTells(t, "an empty text", c, []impl.File{{Path: "a"}}, impl.Blob{Kind: 2, Text: "\x02\x02a\x00\x00\x00"})
	x := dataBlob("x")
	treeTells(t, "a byte", c, []impl.File{{Path: "a", Text: "x"}}, x, impl.Blob{Kind: 2, Text: "\x02\x02a\x00\x02\x02" + wantKey(x)})
	d := impl.Blob{Kind: 2, Text: "\x02\x02b\x00\x00\x00"}
	treeTells(t, "a directory", c, []impl.File{{Path: "a", Text: "x"}, {Path: "d/b"}},
		x, d, impl.Blob{Kind: 2, Text: "\x04\x02a\x00\x02\x02" + wantKey(x) + "\x02d\x02\x00\x02" + wantKey(d)})
	one, two, end := dataBlob("0000000000000001"), dataBlob("0000000000000002"), dataBlob("end")
	text := one.Text + two.Text + end.Text
	treeTells(t, "three pieces", sixteens(), []impl.File{{Path: "a", Text: text}}, one, two, end, treeBlob(fullNode("a", one, two, end)))
}

func TestTreeMakeTellsEachBlobOnce(t *testing.T) {
	one, two := dataBlob("0000000000000001"), dataBlob("0000000000000002")
	a := fullNode("a", one, two, one, one)
	treeTells(t, "a piece again", sixteens(), []impl.File{{Path: "a", Text: numberedText(1, 2) + numberedText(1, 1) + numberedText(1, 1)}}, one, two, treeBlob(a))
	l := []impl.File{{Path: "a", Text: numberedText(1, 2)}, {Path: "b", Text: numberedText(2, 1) + numberedText(1, 1)}, {Path: "c", Text: numberedText(1, 2)}}
	treeTells(t, "a text of several files", sixteens(), l, one, two,
		treeBlob(fullNode("a", one, two), fullNode("b", two, one), fullNode("c", one, two)))
	// A piece that was met within a directory comes no more behind it, nor the other way round.
	l = []impl.File{{Path: "a/x", Text: two.Text}, {Path: "b", Text: one.Text + two.Text}, {Path: "c/x", Text: one.Text}}
	within, last := treeBlob(fullNode("x", two)), treeBlob(fullNode("x", one))
	treeTells(t, "pieces of directories", sixteens(), l, two, within, one, last,
		treeBlob(dirNode("a", within), fullNode("b", one, two), dirNode("c", last)))
	again := treeBlob(fullNode("x", one))
	l = []impl.File{{Path: "a/x", Text: one.Text}, {Path: "b/x", Text: one.Text}, {Path: "c/d/x", Text: one.Text}, {Path: "c/x", Text: one.Text}}
	c := treeBlob(dirNode("d", again), fullNode("x", one))
	treeTells(t, "the same directory at several places", sixteens(), l, one, again, c, treeBlob(dirNode("a", again), dirNode("b", again), dirNode("c", c)))
	empty := treeBlob(fullNode("x"))
	l = []impl.File{{Path: "a/x"}, {Path: "b/x"}, {Path: "x"}}
	treeTells(t, "empty texts", sixteens(), l, empty, treeBlob(dirNode("a", empty), dirNode("b", empty), fullNode("x")))
	// The text of one file is that of a directory's nodes: these are blobs of two kinds.
	both := impl.Cutting{Min: 1000, Max: 2000}
	l = []impl.File{{Path: "a/x"}, {Path: "b", Text: empty.Text}, {Path: "c/y", Text: empty.Text}}
	data := dataBlob(empty.Text)
	y := treeBlob(fullNode("y", data))
	treeTells(t, "one text of both kinds", both, l, empty, data, y, treeBlob(dirNode("a", empty), fullNode("b", data), dirNode("c", y)))
}

func TestTreeMakeOrder(t *testing.T) {
	c := someCutting()
	files := func(paths ...string) []impl.File {
		var l []impl.File
		for _, path := range paths {
			l = append(l, impl.File{Path: path, Text: path})
		}
		return l
	}
	p := dataBlob
	d := treeBlob(fullNode("x", p("d/x")))
	treeTells(t, "a directory ahead of files", c, files("d/x", "e", "f"), p("d/x"), d, p("e"), p("f"),
		treeBlob(dirNode("d", d), fullNode("e", p("e")), fullNode("f", p("f"))))
	treeTells(t, "a directory between files", c, files("c", "d/x", "e"), p("c"), p("d/x"), d, p("e"),
		treeBlob(fullNode("c", p("c")), dirNode("d", d), fullNode("e", p("e"))))
	treeTells(t, "a directory behind files", c, files("b", "c", "d/x"), p("b"), p("c"), p("d/x"), d,
		treeBlob(fullNode("b", p("b")), fullNode("c", p("c")), dirNode("d", d)))
	two := treeBlob(fullNode("x", p("d/x")), fullNode("y", p("d/y")))
	e := treeBlob(fullNode("z", p("e/z")))
	treeTells(t, "two directories", c, files("d/x", "d/y", "e/z"), p("d/x"), p("d/y"), two, p("e/z"), e, treeBlob(dirNode("d", two), dirNode("e", e)))
	// The paths' order is a-b, a/c, a0; that of the names a, a-b, a0.
	a := treeBlob(fullNode("c", p("a/c")))
	treeTells(t, "paths in another order than names", c, files("a-b", "a/c", "a0"), p("a-b"), p("a/c"), a, p("a0"),
		treeBlob(dirNode("a", a), fullNode("a-b", p("a-b")), fullNode("a0", p("a0"))))
	line := treeBlob(fullNode("z", p("a-/z")))
	treeTells(t, "directories in another order than names", c, files("a-/z", "a/c"), p("a-/z"), line, p("a/c"), a,
		treeBlob(dirNode("a", a), dirNode("a-", line)))
	inner := treeBlob(fullNode("c", p("d/a/c")))
	outer := treeBlob(dirNode("a", inner), fullNode("a-b", p("d/a-b")))
	treeTells(t, "so within a directory", c, files("d/a-b", "d/a/c"), p("d/a-b"), p("d/a/c"), inner, outer, treeBlob(dirNode("d", outer)))
	// Four directories, one in the other, with a file in each.
	w4 := treeBlob(fullNode("f", p("a/b/c/d/f")), fullNode("g", p("a/b/c/d/g")))
	w3 := treeBlob(dirNode("d", w4), fullNode("e", p("a/b/c/e")))
	w2 := treeBlob(fullNode("a", p("a/b/a")), dirNode("c", w3))
	w1 := treeBlob(dirNode("b", w2), fullNode("c", p("a/c")))
	treeTells(t, "directories 4 deep", c, files("a/b/a", "a/b/c/d/f", "a/b/c/d/g", "a/b/c/e", "a/c", "b"),
		p("a/b/a"), p("a/b/c/d/f"), p("a/b/c/d/g"), w4, p("a/b/c/e"), w3, w2, p("a/c"), w1, p("b"),
		treeBlob(dirNode("a", w1), fullNode("b", p("b"))))
}

func TestTreeMakeOfWhatIsNotRight(t *testing.T) {
	right := filesOf("a", "b/c")
	forms := func(what string, c impl.Cutting, l []impl.File) {
		t.Helper()
		checkMake(t, what, c, l)
		got := impl.TreeMake(c, l)
		same(t, what+": code", got.Code, impl.ErrForm)
		same(t, what+": root", got.Root, "")
		sameList(t, what+": blobs", got.Blobs, nil)
	}
	wrong := [][]impl.File{{{}}, filesOf("b", "a"), filesOf("a", "a"), filesOf("a", "a/b"), filesOf("a/b/c/d/e/f"), filesOf("A"), filesOf("/a"),
		{{Path: "a", Text: letters(1501)}}, numberedFiles(21), numberedFiles(400), filesOf("a", "a-b", "a/c")}
	for _, c := range wrongCuttings() {
		forms("a wrong cutting", c, right)
		forms("a wrong cutting of no files", c, nil)
		for _, l := range wrong {
			forms("both wrong", c, l)
		}
		checkMake(t, "too many files", c, numberedFiles(401))
		same(t, "too many files", impl.TreeMake(c, numberedFiles(401)).Code, impl.ErrSize)
	}
	for _, c := range append(edgeCuttings(), someCutting()) {
		for _, l := range wrong {
			forms("wrong files", c, l)
		}
		for _, count := range []int{401, 402, 800} {
			checkMake(t, "too many files", c, numberedFiles(count))
			got := impl.TreeMake(c, numberedFiles(count))
			same(t, "too many files", got.Code, impl.ErrSize)
			same(t, "too many files: root", got.Root, "")
			sameList(t, "too many files: blobs", got.Blobs, nil)
		}
	}
}

// wideFiles are in a directory each, with so many pieces of sixteens, no two of them the same.
func wideFiles(pieces ...int) []impl.File {
	var l []impl.File
	first := 0
	for i, count := range pieces {
		l = append(l, impl.File{Path: fmt.Sprintf("d%02d/f", i), Text: numberedText(first, count)})
		first += count
	}
	return l
}

func TestTreeMakeOfNodesThatAreTooMuch(t *testing.T) {
	makes := func(what string, l []impl.File, code int64) {
		t.Helper()
		same(t, what+": as the test has it", checkMake(t, what, sixteens(), l).Code, code)
		got := impl.TreeMake(sixteens(), l)
		same(t, what, got.Code, code)
		if code == impl.OK {
			comesBackFromItsTree(t, what, sixteens(), l)
			return
		}
		same(t, what+": root", got.Root, "")
		sameList(t, what+": blobs", got.Blobs, nil)
	}
	// One file whose nodes have just so many bytes, at the root and beneath.
	for _, ahead := range []string{"", "d/", "a/b/c/d/"} {
		for size, code := range map[int]int64{1999: impl.OK, 2000: impl.OK, 2001: impl.ErrRange, 2002: impl.ErrRange} {
			l := []impl.File{{Path: "n", Text: numberedText(0, 61)}}
			l[0].Path += strings.Repeat("n", size-len(nodesBytes([]impl.Node{{Name: "n", Size: 976, Keys: keysOf(61)}})))
			same(t, "bytes", len(nodesBytes([]impl.Node{{Name: l[0].Path, Size: 976, Keys: keysOf(61)}})), size)
			l[0].Path = ahead + l[0].Path
			makes(fmt.Sprintf("nodes of %d bytes in %q", size, ahead), l, code)
			// With other files that are not too much, in another directory, ahead and behind.
			if ahead != "" {
				makes("among others", slices.Concat(filesOf("a-x"), l, filesOf("z/a")), code)
			}
		}
	}
	// Many files of few pieces, together too much in one directory, but not in two.
	var together, apart []impl.File
	for i := range 20 {
		text := numberedText(10*i, 4)
		together = append(together, impl.File{Path: fmt.Sprintf("d/f%02d", i), Text: text})
		apart = append(apart, impl.File{Path: fmt.Sprintf("d%d/f%02d", i/10, i), Text: text})
	}
	makes("in one directory", together, impl.ErrRange)
	makes("in two directories", apart, impl.OK)
	// The most pieces that a file may have: 94.
	makes("a full file", []impl.File{{Path: "f", Text: numberedText(0, 94)[:1500]}}, impl.ErrRange)
	makes("62 pieces", []impl.File{{Path: "f", Text: numberedText(0, 62)}}, impl.OK)
	makes("63 pieces", []impl.File{{Path: "f", Text: numberedText(0, 63)}}, impl.ErrRange)
	// The same piece again and again is one blob, but as many keys.
	makes("63 times one piece", []impl.File{{Path: "f", Text: strings.Repeat(numberedText(0, 1), 63)}}, impl.ErrRange)
	for at := range 20 {
		counts := slices.Repeat([]int{1}, 20)
		counts[at] = 63
		makes(fmt.Sprint("too much at ", at), wideFiles(counts...), impl.ErrRange)
	}
}

func TestTreeMakeOfTooManyBlobs(t *testing.T) {
	for counts, code := range map[[8]int]int64{
		{48, 48, 49, 49, 49, 49, 49, 49}: impl.OK, {49, 49, 49, 49, 49, 49, 49, 48}: impl.OK, {49, 49, 49, 49, 49, 49, 49, 49}: impl.ErrFull,
		{62, 62, 62, 62, 62, 62, 18, 1}: impl.OK, {62, 62, 62, 62, 62, 62, 18, 2}: impl.ErrFull, {50, 49, 49, 49, 49, 49, 49, 49}: impl.ErrFull,
	} {
		l := wideFiles(counts[:]...)
		total := 9
		for _, count := range counts {
			total += count
		}
		same(t, "blobs", total <= 400, code == impl.OK)
		same(t, "as the test has it", checkMake(t, fmt.Sprint(total, " blobs"), sixteens(), l).Code, code)
		got := impl.TreeMake(sixteens(), l)
		same(t, fmt.Sprint(total, " blobs"), got.Code, code)
		if code == impl.OK {
			same(t, "all of them", len(got.Blobs), total)
			comesBackFromItsTree(t, fmt.Sprint(total, " blobs"), sixteens(), l)
			continue
		}
		same(t, "root", got.Root, "")
		sameList(t, "blobs", got.Blobs, nil)
		// Blobs that are met again are not more.
		l[7].Text = l[6].Text
		same(t, "met again", checkMake(t, "met again", sixteens(), l).Code, impl.OK)
		comesBackFromItsTree(t, "met again", sixteens(), l)
	}
	most := wideFiles(slices.Repeat([]int{62}, 20)...)
	same(t, "as many as there may be", checkMake(t, "many", sixteens(), most).Code, impl.ErrFull)
	same(t, "as many as there may be", impl.TreeMake(sixteens(), most).Code, impl.ErrFull)
	// Where nodes are too much as well, that is told, wherever they stand.
	for at := range 20 {
		counts := slices.Repeat([]int{62}, 20)
		counts[at] = 63
		checkMake(t, "both", sixteens(), wideFiles(counts...))
		same(t, fmt.Sprint("both, at ", at), impl.TreeMake(sixteens(), wideFiles(counts...)).Code, impl.ErrRange)
	}
	root := append(wideFiles(slices.Repeat([]int{62}, 19)...), impl.File{Path: "f", Text: numberedText(9000, 63)})
	checkMake(t, "both, at the root", sixteens(), root)
	same(t, "both, at the root", impl.TreeMake(sixteens(), root).Code, impl.ErrRange)
}

type makeIn struct {
	c     impl.Cutting
	files []impl.File
}

func TestTreeMakeTellsTheFirstFault(t *testing.T) {
	right := func() makeIn { return makeIn{c: sixteens(), files: wideFiles(1, 2, 3)} }
	firstFault(right, []fault[makeIn]{
		{code: impl.ErrSize, make: func(in *makeIn) {
			for len(in.files) < 401 {
				in.files = append(in.files, in.files[0])
			}
		}},
		{code: impl.ErrForm, make: func(in *makeIn) { in.c.Min = 15 }},
		{code: impl.ErrForm, make: func(in *makeIn) { in.files[0].Path = "d00/F" }},
		{code: impl.ErrRange, make: func(in *makeIn) { in.files[len(in.files)-1].Text = numberedText(9000, 63) }},
		{code: impl.ErrFull, make: func(in *makeIn) { in.files = wideFiles(slices.Repeat([]int{62}, 20)...) }},
	}, func(in makeIn, code int64) {
		same(t, "as the test has it", checkMake(t, "faults", in.c, in.files).Code, code)
		same(t, "the first fault", impl.TreeMake(in.c, in.files).Code, code)
	})
}

// Promise 17.
func TestFilesComeBackFromTheirTree(t *testing.T) {
	r := rand.New(rand.NewSource(145))
	made := 0
	for i := range 400 {
		c, l := drawnCutting(r), drawnFiles(r, []int{1, 4, 20}[i%3], []int{20, 200, 1500}[r.Intn(3)])
		if checkMake(t, "drawn", c, l).Code == impl.OK {
			made++
			comesBackFromItsTree(t, "drawn", c, l)
		}
	}
	same(t, "enough of them", made > 200, true)
	for _, c := range append(edgeCuttings(), someCutting(), sixteens()) {
		for range 5 {
			l := drawnFiles(r, 20, 60)
			if checkMake(t, "drawn", c, l).Code == impl.OK {
				comesBackFromItsTree(t, "drawn", c, l)
			}
		}
	}
	comesBackFromItsTree(t, "no files", someCutting(), nil)
	comesBackFromItsTree(t, "20 files", someCutting(), numberedFiles(20))
	long := strings.Repeat("n", 80)
	var deep []impl.File
	for i := range 20 {
		deep = append(deep, impl.File{Path: strings.Join([]string{long, long, long, long, fmt.Sprintf("n%079d", i)}, "/"), Text: letters(i)})
	}
	comesBackFromItsTree(t, "the longest paths", someCutting(), deep[:16])
	var full []impl.File
	for i := range 20 {
		full = append(full, impl.File{Path: fmt.Sprint("f", 10+i), Text: drawnText(r, 1500)})
	}
	comesBackFromItsTree(t, "the longest texts", impl.Cutting{Min: 1000, Bits: 12, Max: 2000}, full)
}

// Promise 17.
func TestATreeThatLacksABlob(t *testing.T) {
	r := rand.New(rand.NewSource(146))
	for range 60 {
		l := drawnFiles(r, 12, 80)
		tree := wantTree(someCutting(), l)
		for at := range tree.Blobs {
			walkTells(t, "a blob lacks", slices.Delete(slices.Clone(tree.Blobs), at, at+1), tree.Root, impl.ErrNone)
		}
		others := slices.Concat(someBlobs(20), tree.Blobs, tree.Blobs, []impl.Blob{{}, {Kind: 3, Text: "x"}})
		r.Shuffle(len(others), func(i, j int) { others[i], others[j] = others[j], others[i] })
		if tree.Code == impl.OK && len(others) <= 400 {
			walkTells(t, "in another order, among others", others, tree.Root, impl.OK)
			sameList(t, "in another order", impl.TreeFiles(others, tree.Root).Files, l)
			sameList(t, "keys of what is met alone", impl.TreeKeys(others, tree.Root), impl.TreeKeys(tree.Blobs, tree.Root))
		}
	}
}

func TestTreeFilesOfRoots(t *testing.T) {
	word, tree, none := dataBlob("word"), treeBlob(), dataBlob("none")
	wrong := []impl.Blob{{}, {Kind: 0, Text: tree.Text}, {Kind: 3, Text: tree.Text}, {Kind: 2, Text: strings.Repeat("x", 2001)}, {Kind: -1}, {Kind: math.MinInt64}}
	blobs := append(wrong, word, tree, impl.Blob{Kind: 2, Text: "\x02"}, impl.Blob{Kind: 2}, impl.Blob{Kind: 1, Text: "\x00"}, impl.Blob{Kind: 2, Text: "word"})
	walkTells(t, "an empty root", blobs, wantKey(tree), impl.OK)
	walkTells(t, "an empty root alone", []impl.Blob{tree}, wantKey(tree), impl.OK)
	sameList(t, "its key", impl.TreeKeys(blobs, wantKey(tree)), []string{wantKey(tree)})
	walkTells(t, "no blobs", nil, wantKey(tree), impl.ErrNone)
	walkTells(t, "no blobs, no root", nil, "", impl.ErrNone)
	walkTells(t, "no blob's key", blobs, wantKey(none), impl.ErrNone)
	walkTells(t, "a root that is data", blobs, wantKey(word), impl.ErrSyntax)
	walkTells(t, "a root that is data, with nodes' bytes", blobs, wantKey(impl.Blob{Kind: 1, Text: "\x00"}), impl.ErrSyntax)
	walkTells(t, "a root that is no nodes", blobs, wantKey(impl.Blob{Kind: 2, Text: "\x02"}), impl.ErrSyntax)
	walkTells(t, "a root that is empty", blobs, wantKey(impl.Blob{Kind: 2}), impl.ErrSyntax)
	walkTells(t, "a root that is a word", blobs, wantKey(impl.Blob{Kind: 2, Text: "word"}), impl.ErrSyntax)
	for _, b := range wrong {
		walkTells(t, "a blob that is not right", blobs, wantKey(b), impl.ErrNone)
	}
	key := wantKey(tree)
	for _, root := range []string{"", key[:31], key[1:], key + "\x00", "\x00" + key, key + key, impl.Hex(key), tree.Text, "x", letters(32), letters(impl.MaxBytes)} {
		walkTells(t, "no key", blobs, root, impl.ErrNone)
		walkTells(t, "no key among those that are not right", wrong, root, impl.ErrNone)
	}
	// Nodes told well that are not right are none.
	for _, l := range [][]impl.Node{numberedNodes(21), {{Name: "b"}, {Name: "a"}}, {{Name: "A"}}, {{Name: "a", Size: 1501}}, {{Name: "a", Dir: true, Size: 1, Keys: []string{key}}}} {
		b := treeBlob(l...)
		walkTells(t, "nodes that are not right", []impl.Blob{tree, b}, wantKey(b), impl.ErrSyntax)
	}
	behind := impl.Blob{Kind: 2, Text: tree.Text + "\x00"}
	walkTells(t, "a byte behind the nodes", []impl.Blob{tree, behind}, wantKey(behind), impl.ErrSyntax)
}

func TestTreeFilesOfLongListsAndTexts(t *testing.T) {
	tree := treeBlob()
	key := wantKey(tree)
	for count, fits := range map[int]bool{399: true, 400: true, 401: false, 402: false, 800: false} {
		code, none := int64(impl.OK), int64(impl.ErrNone)
		if !fits {
			code, none = impl.ErrSize, impl.ErrSize
		}
		walkTells(t, "one blob again and again", slices.Repeat([]impl.Blob{tree}, count), key, code)
		last := append(make([]impl.Blob, count-1), tree)
		walkTells(t, "the last one of many that are not right", last, key, code)
		walkTells(t, "none of many that are not right", make([]impl.Blob, count), key, none)
		walkTells(t, "no root", last, "", none)
	}
	for _, size := range []int{impl.MaxBytes + 1, impl.MaxBytes + 2, 2 * impl.MaxBytes} {
		walkTells(t, "a long root", []impl.Blob{tree}, letters(size), impl.ErrSize)
		walkTells(t, "a long root in no blobs", nil, letters(size), impl.ErrSize)
		walkTells(t, "a long root, a long list", make([]impl.Blob, 401), letters(size), impl.ErrSize)
	}
	walkTells(t, "a root that is not too long", []impl.Blob{tree}, letters(impl.MaxBytes), impl.ErrNone)
}

// A flaw is a node with which a walk ends, whatever stands behind it, and what is told.
type flaw struct {
	what string
	code int64
	node impl.Node
}

// flawedBlobs are those that flaws ask for, and some that they do not.
func flawedBlobs() []impl.Blob {
	l := []impl.Blob{dataBlob("word"), dataBlob("more!"), dataBlob(""), treeBlob(), {Kind: 2, Text: "\x02"}, dataBlob("\x00"), {Kind: 1, Text: letters(2001)}, {Kind: 2, Text: "word"},
		treeBlob(fullNode("f", dataBlob("word"))), {Kind: 3, Text: "\x00"}}
	return append(l, chain(6)...)
}

// chain are directories, each in the one behind it.
func chain(count int) []impl.Blob {
	l := []impl.Blob{treeBlob()}
	for len(l) < count {
		l = append(l, treeBlob(dirNode("c", l[len(l)-1])))
	}
	return l
}

func flaws() []flaw {
	none, word, more, empty, tree := dataBlob("none"), dataBlob("word"), dataBlob("more!"), dataBlob(""), treeBlob()
	long := dataBlob(letters(2001))
	return []flaw{
		{"a directory that is not there", impl.ErrNone, dirNode("n", impl.Blob{Kind: 2, Text: "none"})},
		{"a directory whose blob is not right", impl.ErrNone, dirNode("n", impl.Blob{Kind: 3, Text: "\x00"})},
		{"a directory that is data", impl.ErrSyntax, dirNode("n", word)},
		{"a directory that is data with nodes' bytes", impl.ErrSyntax, dirNode("n", dataBlob("\x00"))},
		{"a directory that is no nodes", impl.ErrSyntax, dirNode("n", impl.Blob{Kind: 2, Text: "\x02"})},
		{"a piece that is not there", impl.ErrNone, fileNode("n", 4, none)},
		{"a piece that is not there, of an empty file", impl.ErrNone, fileNode("n", 0, none)},
		{"a piece that is not right", impl.ErrNone, fileNode("n", 1500, long)},
		{"a second piece that is not there", impl.ErrNone, fileNode("n", 8, word, none)},
		{"a second piece that is not there, ahead of a third one", impl.ErrNone, fileNode("n", 8, word, none, more)},
		{"a piece that is not there behind all bytes", impl.ErrNone, fileNode("n", 4, word, none)},
		{"a piece that is a tree", impl.ErrSyntax, fileNode("n", 1, tree)},
		{"a piece that is a tree, with the bytes of data", impl.ErrSyntax, fileNode("n", 4, impl.Blob{Kind: 2, Text: "word"})},
		{"a second piece that is a tree", impl.ErrSyntax, fileNode("n", 5, word, tree)},
		{"a tree ahead of what is not there", impl.ErrSyntax, fileNode("n", 5, tree, none)},
		{"what is not there ahead of a tree", impl.ErrNone, fileNode("n", 5, none, tree)},
		{"a tree that would be too much", impl.ErrSyntax, fileNode("n", 0, tree)},
		{"a piece of too much", impl.ErrSum, fileNode("n", 3, word)},
		{"a piece of an empty file", impl.ErrSum, fileNode("n", 0, word)},
		{"a second piece of too much", impl.ErrSum, fileNode("n", 8, word, more)},
		{"a second piece behind all bytes", impl.ErrSum, fileNode("n", 4, word, word)},
		{"too much ahead of what is not there", impl.ErrSum, fileNode("n", 8, word, more, none)},
		{"too much ahead of a tree", impl.ErrSum, fileNode("n", 3, word, tree)},
		{"too much behind what is not there", impl.ErrNone, fileNode("n", 3, none, word)},
		{"too little", impl.ErrSum, fileNode("n", 5, word)},
		{"too little of two pieces", impl.ErrSum, fileNode("n", 10, word, more)},
		{"too little of empty pieces", impl.ErrSum, fileNode("n", 1, empty, empty)},
		{"too little ahead of what is not there", impl.ErrNone, fileNode("n", 1500, word, none)},
		{"too little ahead of a tree", impl.ErrSyntax, fileNode("n", 1500, word, tree)},
		{"no pieces, but a byte", impl.ErrSum, fileNode("n", 1)},
		{"no pieces, but as many bytes as may be", impl.ErrSum, fileNode("n", 1500)},
		{"directories that are too deep", impl.ErrRange, dirNode("n", chain(6)[5])},
	}
}

// soundNodes are some with which a walk goes on.
func soundNodes() []impl.Node {
	word, more, empty := dataBlob("word"), dataBlob("more!"), dataBlob("")
	return []impl.Node{
		fileNode("n", 0), fileNode("n", 4, word), fileNode("n", 9, word, more), fileNode("n", 0, empty), fileNode("n", 4, empty, word, empty),
		fileNode("n", 8, word, word), dirNode("n", treeBlob()), dirNode("n", treeBlob(fullNode("f", word))),
	}
}

func named(name string, n impl.Node) impl.Node {
	n.Name = name
	return n
}

// rootTells asks what is told of a root of these nodes.
func rootTells(t *testing.T, what string, blobs []impl.Blob, code int64, l ...impl.Node) {
	t.Helper()
	root := treeBlob(l...)
	walkTells(t, what, append(slices.Clone(blobs), root), wantKey(root), code)
}

func TestTreeFilesTellsEachFlaw(t *testing.T) {
	blobs := flawedBlobs()
	for _, n := range soundNodes() {
		rootTells(t, "a sound node", blobs, impl.OK, n)
	}
	for _, f := range flaws() {
		rootTells(t, f.what, blobs, f.code, f.node)
		for i, n := range soundNodes() {
			rootTells(t, fmt.Sprint(f.what, " behind ", i), blobs, f.code, named("m", n), f.node)
			rootTells(t, fmt.Sprint(f.what, " ahead of ", i), blobs, f.code, f.node, named("o", n))
			rootTells(t, fmt.Sprint(f.what, " between ", i), blobs, f.code, named("m", n), f.node, named("o", n))
		}
	}
}

func TestTreeFilesTellsTheFirstFlaw(t *testing.T) {
	blobs := flawedBlobs()
	for _, f := range flaws() {
		for _, g := range flaws() {
			what := f.what + " ahead of " + g.what
			rootTells(t, what, blobs, f.code, named("a", f.node), named("b", g.node))
			within := treeBlob(f.node)
			more := append(slices.Clone(blobs), within)
			rootTells(t, what+", in a directory", more, f.code, dirNode("a", within), named("b", g.node))
			rootTells(t, what+", ahead of a directory", append(slices.Clone(blobs), treeBlob(g.node)), f.code, named("a", f.node), dirNode("b", treeBlob(g.node)))
			// By the paths' order it would be the other way round.
			rootTells(t, what+", in a directory of another order", more, f.code, dirNode("a", within), named("a-b", g.node))
			both := treeBlob(named("a", f.node), named("b", g.node))
			rootTells(t, what+", both in a directory", append(slices.Clone(blobs), both), f.code, dirNode("a", both))
		}
	}
}

// beneathDirectories has a node in so many directories, each in the other, and tells the outermost one and all of them.
func beneathDirectories(n impl.Node, deep int) (impl.Node, []impl.Blob) {
	var l []impl.Blob
	for range deep {
		l = append(l, treeBlob(n))
		n = dirNode("d", l[len(l)-1])
	}
	return n, l
}

func TestTreeFilesOfDeepPaths(t *testing.T) {
	for deep := range 9 {
		for i, n := range soundNodes() {
			top, l := beneathDirectories(n, deep)
			code := int64(impl.OK)
			if deep > 4 || deep == 4 && i == 7 {
				code = impl.ErrRange
			}
			rootTells(t, fmt.Sprint("node ", i, " beneath ", deep, " directories"), append(l, flawedBlobs()...), code, top)
		}
		for _, f := range flaws() {
			top, l := beneathDirectories(f.node, deep)
			code := f.code
			if deep > 4 {
				code = impl.ErrRange
			}
			rootTells(t, fmt.Sprint(f.what, " beneath ", deep, " directories"), append(l, flawedBlobs()...), code, top)
			rootTells(t, fmt.Sprint(f.what, " beneath ", deep, " directories, ahead of another one"), append(l, flawedBlobs()...), code, top, fileNode("z", 7))
		}
	}
	// An empty directory may be the fifth name, but not the sixth.
	for count, code := range map[int]int64{1: impl.OK, 5: impl.OK, 6: impl.OK, 7: impl.ErrRange, 8: impl.ErrRange} {
		l := chain(count)
		walkTells(t, fmt.Sprint(count, " directories"), l, wantKey(l[count-1]), code)
	}
	top, l := beneathDirectories(fullNode("f", dataBlob("word")), 4)
	root := treeBlob(top)
	got := impl.TreeFiles(append(l, root, dataBlob("word")), wantKey(root))
	sameList(t, "a path of five names", got.Files, []impl.File{{Path: "d/d/d/d/f", Text: "word"}})
}

// manyNodes are so many of one kind, with names that rise.
func manyNodes(count int, n impl.Node) []impl.Node {
	var l []impl.Node
	for i := range count {
		l = append(l, named(fmt.Sprintf("m%02d", i), n))
	}
	return l
}

func TestTreeFilesOfManyFiles(t *testing.T) {
	blobs := flawedBlobs()
	word := fullNode("f", dataBlob("word"))
	for count := range 21 {
		rootTells(t, fmt.Sprint(count, " files"), blobs, impl.OK, manyNodes(count, word)...)
		for more := range 21 {
			within := treeBlob(manyNodes(more, word)...)
			code := int64(impl.OK)
			if count+more > 20 {
				code = impl.ErrRange
			}
			if count < 20 {
				what := fmt.Sprint(count, " files and ", more, " in a directory")
				rootTells(t, what, append(slices.Clone(blobs), within), code, append(manyNodes(count, word), dirNode("n", within))...)
				rootTells(t, what+" ahead", append(slices.Clone(blobs), within), code, append([]impl.Node{dirNode("a", within)}, manyNodes(count, word)...)...)
			}
		}
	}
	// Behind 20 files a directory may stand, but no file, whatever else is wrong with it.
	twenty := treeBlob(manyNodes(20, word)...)
	nineteen := treeBlob(manyNodes(19, word)...)
	blobs = append(blobs, twenty, nineteen)
	for _, f := range flaws() {
		code := f.code
		if !f.node.Dir {
			code = impl.ErrRange
		}
		rootTells(t, f.what+" behind 20 files", blobs, code, dirNode("d", twenty), f.node)
		rootTells(t, f.what+" behind 19 files", blobs, f.code, dirNode("d", nineteen), f.node)
		rootTells(t, f.what+" ahead of 21 files", blobs, f.code, f.node, dirNode("p", twenty), named("q", word))
	}
	rootTells(t, "an empty directory behind 20 files", blobs, impl.OK, dirNode("d", twenty), dirNode("e", treeBlob()))
	rootTells(t, "an empty file behind 20 files", blobs, impl.ErrRange, dirNode("d", twenty), fileNode("e", 0))
	rootTells(t, "20 files again", blobs, impl.ErrRange, dirNode("d", twenty), dirNode("e", twenty))
}

func TestTreeFilesOfManyNodes(t *testing.T) {
	empty := treeBlob()
	blobs := flawedBlobs()
	// Nineteen empty directories, and the one that has them, are 20 nodes: met again and again.
	many := treeBlob(manyNodes(19, dirNode("e", empty))...)
	fewer := treeBlob(manyNodes(18, dirNode("e", empty))...)
	blobs = append(blobs, many, fewer)
	ten := manyNodes(10, dirNode("d", many))
	rootTells(t, "200 nodes", blobs, impl.OK, ten...)
	rootTells(t, "201 nodes", blobs, impl.ErrRange, append(slices.Clone(ten), dirNode("n", empty))...)
	rootTells(t, "201 nodes, the last one a file", blobs, impl.ErrRange, append(slices.Clone(ten), fileNode("n", 0))...)
	nine := append(manyNodes(9, dirNode("d", many)), dirNode("m09", fewer))
	rootTells(t, "199 nodes", blobs, impl.OK, nine...)
	rootTells(t, "200 nodes, the last one at the root", blobs, impl.OK, append(slices.Clone(nine), dirNode("n", empty))...)
	rootTells(t, "200 nodes, the last one a file", blobs, impl.OK, append(slices.Clone(nine), fullNode("n", dataBlob("word")))...)
	rootTells(t, "201 nodes, the last one in a directory", blobs, impl.ErrRange, append(slices.Clone(nine), dirNode("n", treeBlob(fullNode("f", dataBlob("word")))))...)
	for _, f := range flaws() {
		rootTells(t, f.what+" as the 201st node", blobs, impl.ErrRange, append(slices.Clone(ten), f.node)...)
		if f.what != "directories that are too deep" {
			rootTells(t, f.what+" as the 200th node", blobs, f.code, append(slices.Clone(nine), f.node)...)
		}
		rootTells(t, f.what+" ahead of 201 nodes", blobs, f.code, append([]impl.Node{named("a", f.node)}, ten...)...)
	}
	for count := range 21 {
		code := int64(impl.OK)
		if count > 10 {
			code = impl.ErrRange
		}
		rootTells(t, fmt.Sprint(count, " times 20 nodes"), blobs, code, manyNodes(count, dirNode("d", many))...)
	}
	// What has 20 directories, each with 20 of them, and so on, has thousands of nodes.
	l := []impl.Blob{empty}
	for deep := range 6 {
		l = append(l, treeBlob(manyNodes(20, dirNode("d", l[len(l)-1]))...))
		code := int64(impl.OK)
		if deep > 0 {
			code = impl.ErrRange
		}
		walkTells(t, fmt.Sprint("20 directories in each, ", deep), l, wantKey(l[len(l)-1]), code)
	}
}

func TestTreeFilesInOrder(t *testing.T) {
	p := dataBlob
	a := treeBlob(fullNode("c", p("second")), fullNode("d", p("third")))
	root := treeBlob(dirNode("a", a), fullNode("a-b", p("first")), fullNode("a0", p("fourth")))
	blobs := []impl.Blob{root, p("fourth"), a, p("third"), p("second"), p("first"), p("none of them")}
	walkTells(t, "another order", blobs, wantKey(root), impl.OK)
	sameList(t, "files by their paths", impl.TreeFiles(blobs, wantKey(root)).Files,
		[]impl.File{{Path: "a-b", Text: "first"}, {Path: "a/c", Text: "second"}, {Path: "a/d", Text: "third"}, {Path: "a0", Text: "fourth"}})
	var keys []string
	for _, b := range blobs[:6] {
		keys = append(keys, wantKey(b))
	}
	slices.Sort(keys)
	sameList(t, "keys", impl.TreeKeys(blobs, wantKey(root)), keys)
	// From a directory of it, as if it stood alone.
	walkTells(t, "from a directory", blobs, wantKey(a), impl.OK)
	sameList(t, "files of a directory", impl.TreeFiles(blobs, wantKey(a)).Files, []impl.File{{Path: "c", Text: "second"}, {Path: "d", Text: "third"}})
	same(t, "keys of a directory", len(impl.TreeKeys(blobs, wantKey(a))), 3)
	// Pieces are put one behind the other in the order of the keys, also where one comes again.
	f := treeBlob(fullNode("f", p("x"), p("yy"), p("x"), p(""), p("zzz"), p("x")))
	walkTells(t, "pieces", []impl.Blob{p("zzz"), p("yy"), p("x"), p(""), f}, wantKey(f), impl.OK)
	sameList(t, "pieces", impl.TreeFiles([]impl.Blob{p("zzz"), p("yy"), p("x"), p(""), f}, wantKey(f)).Files, []impl.File{{Path: "f", Text: "xyyxzzzx"}})
	same(t, "their keys", len(impl.TreeKeys([]impl.Blob{p("zzz"), p("yy"), p("x"), p(""), f}, wantKey(f))), 5)
	// The same blobs, each twice.
	twice := slices.Concat(blobs, blobs)
	walkTells(t, "twice", twice, wantKey(root), impl.OK)
	sameList(t, "twice", impl.TreeKeys(twice, wantKey(root)), keys)
	// One directory at two places tells its files at each of them.
	both := treeBlob(dirNode("x", a), dirNode("y", a))
	walkTells(t, "one directory at two places", append(blobs, both), wantKey(both), impl.OK)
	same(t, "files", len(impl.TreeFiles(append(blobs, both), wantKey(both)).Files), 4)
	same(t, "keys", len(impl.TreeKeys(append(blobs, both), wantKey(both))), 4)
}

func TestTreeFilesOfLargeFiles(t *testing.T) {
	for size, code := range map[int]int64{1499: impl.OK, 1500: impl.OK, 1501: impl.ErrSum, 2000: impl.ErrSum} {
		b := dataBlob(letters(size))
		rootTells(t, fmt.Sprint("a piece of ", size, " bytes"), []impl.Blob{b}, code, fileNode("f", min(size, 1500), b))
	}
	// Nodes of so many keys that they still are a blob.
	var pieces []impl.Blob
	for i := range 60 {
		pieces = append(pieces, dataBlob(fmt.Sprintf("%025d", i)))
	}
	rootTells(t, "60 pieces", pieces, impl.OK, fullNode("f", pieces...))
	rootTells(t, "60 pieces, one of them again", pieces, impl.ErrSum, fileNode("f", 1500, append(pieces, pieces[0])...))
	rootTells(t, "59 pieces of 60", pieces, impl.ErrSum, fileNode("f", 1500, pieces[1:]...))
	rootTells(t, "60 pieces, of which one lacks", pieces[1:], impl.ErrNone, fullNode("f", pieces...))
	long := fullNode("f", append(pieces, dataBlob(""), dataBlob(""), dataBlob(""))...)
	rootTells(t, "nodes of too many bytes for a blob", append(pieces, dataBlob("")), impl.ErrNone, long)
}

// drawnKin is one of the blobs, most often one of that kind; now and then it is none of them.
func drawnKin(r *rand.Rand, l []impl.Blob, kind int64) impl.Blob {
	b := l[r.Intn(len(l))]
	for b.Kind != kind && r.Intn(100) > 0 {
		b = l[r.Intn(len(l))]
	}
	if r.Intn(150) == 0 {
		return dataBlob("none of them")
	}
	return b
}

// drawnForest is a list of blobs of which many are nodes of others, nearly all of them sound.
func drawnForest(r *rand.Rand) []impl.Blob {
	l := []impl.Blob{treeBlob(), dataBlob("word"), dataBlob("")}
	for range r.Intn(4) {
		l = append(l, dataBlob(drawnText(r, r.Intn(12))))
	}
	for range 1 + r.Intn(9) {
		var nodes []impl.Node
		for i := range 1 + r.Intn([]int{2, 5, 20}[r.Intn(3)]) {
			name := fmt.Sprint("n", i) + []string{"", "-"}[r.Intn(2)]
			if r.Intn(2) == 0 {
				nodes = append(nodes, dirNode(name, drawnKin(r, l, impl.KindTree)))
				continue
			}
			var pieces []impl.Blob
			for range r.Intn(4) {
				pieces = append(pieces, drawnKin(r, l, impl.KindData))
			}
			n := fullNode(name, pieces...)
			if r.Intn(60) == 0 {
				n.Size = max(0, n.Size+r.Int63n(5)-2)
			}
			nodes = append(nodes, n)
		}
		slices.SortFunc(nodes, func(a, b impl.Node) int { return strings.Compare(a.Name, b.Name) })
		b := treeBlob(nodes...)
		if r.Intn(60) == 0 {
			b.Text += "\x00"
		}
		l = append(l, b)
	}
	l = append(l, l[r.Intn(len(l))], impl.Blob{Kind: r.Int63n(4), Text: drawnText(r, r.Intn(5))})
	r.Shuffle(len(l), func(i, j int) { l[i], l[j] = l[j], l[i] })
	return l
}

func TestWalksInDrawnForests(t *testing.T) {
	r := rand.New(rand.NewSource(147))
	told := map[int64]int{}
	for range 1500 {
		l := drawnForest(r)
		for _, b := range l {
			if b.Kind == impl.KindTree || r.Intn(10) == 0 {
				told[checkWalk(t, "drawn", l, wantKey(b)).Code]++
			}
		}
	}
	for _, code := range []int64{impl.OK, impl.ErrNone, impl.ErrSyntax, impl.ErrRange, impl.ErrSum} {
		same(t, fmt.Sprint("code ", code, " often enough: ", told[code]), told[code] >= 100, true)
	}
}

// What a map has is gone through in another order each time.
func TestTreesAreToldInOneOrder(t *testing.T) {
	l := wideFiles(20, 20, 20, 20, 20)
	tree := wantTree(sixteens(), l)
	_, keys := wantWalk(tree.Blobs, tree.Root)
	for range 30 {
		sameList(t, "TreeMake", impl.TreeMake(sixteens(), l).Blobs, tree.Blobs)
		sameList(t, "TreeFiles", impl.TreeFiles(tree.Blobs, tree.Root).Files, l)
		sameList(t, "TreeKeys", impl.TreeKeys(tree.Blobs, tree.Root), keys)
	}
}

func TestTreesSideBySide(t *testing.T) {
	const workers = 16
	var makes [workers]impl.TreeOut
	var walks [workers]impl.FilesOut
	var keys [workers][]string
	var reads [workers]impl.NodesOut
	all := numberedFiles(20)
	var group sync.WaitGroup
	for i := range workers {
		group.Go(func() {
			makes[i] = impl.TreeMake(someCutting(), all[:i])
			walks[i] = impl.TreeFiles(makes[i].Blobs, makes[i].Root)
			keys[i] = impl.TreeKeys(makes[i].Blobs, makes[i].Root)
			reads[i] = impl.NodesRead(impl.NodesBytes(numberedNodes(i)))
		})
	}
	group.Wait()
	for i := range workers {
		want := wantTree(someCutting(), all[:i])
		same(t, "TreeMake", makes[i].Root, want.Root)
		sameList(t, "TreeMake", makes[i].Blobs, want.Blobs)
		sameList(t, "TreeFiles", walks[i].Files, all[:i])
		same(t, "TreeKeys", len(keys[i]), len(want.Blobs))
		sameNodes(t, "NodesRead", reads[i].Nodes, numberedNodes(i))
	}
}
