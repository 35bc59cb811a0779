package tests

import (
	"fmt"
	"maps"
	"math"
	"math/rand"
	"slices"
	"strings"
	"sync"
	"testing"

	"loop.example/g00259/impl"
)

// numbersOf are a policy's, in its order.
func numbersOf(p impl.Policy) []int64 {
	return []int64{p.Last, p.Days, p.Weeks, p.Months}
}

func policyOf(n []int64) impl.Policy {
	return impl.Policy{Last: n[0], Days: n[1], Weeks: n[2], Months: n[3]}
}

// onlyNumber is a policy of zeros but for the number of that place.
func onlyNumber(at int, n int64) impl.Policy {
	l := make([]int64, 4)
	l[at] = n
	return policyOf(l)
}

func wantPolicyRight(p impl.Policy) bool {
	return slices.Min(numbersOf(p)) >= 0 && slices.Max(numbersOf(p)) <= 100
}

func wantSnapsRight(l []impl.Snap) bool {
	if len(l) > 100 {
		return false
	}
	names := map[string]bool{}
	for _, s := range l {
		if !wantSnapRight(s) {
			return false
		}
		names[s.Name] = true
	}
	return len(names) == len(l) && slices.IsSortedFunc(l, func(a, b impl.Snap) int { return strings.Compare(a.Name, b.Name) })
}

func newer(a impl.Snap, b impl.Snap) bool {
	return a.Day > b.Day || a.Day == b.Day && a.Name > b.Name
}

// wantByDays is whether no newer one is of the same so many days, and fewer than most of these that have one are
// newer.
func wantByDays(l []impl.Snap, s impl.Snap, days int64, most int64) bool {
	ahead := map[int64]bool{}
	for _, other := range l {
		if newer(other, s) {
			ahead[other.Day/days] = true
		}
	}
	return !ahead[s.Day/days] && int64(len(ahead)) < most
}

func wantByLast(l []impl.Snap, s impl.Snap, most int64) bool {
	ahead := int64(0)
	for _, other := range l {
		if newer(other, s) {
			ahead++
		}
	}
	return ahead < most
}

// wantNames tells of each snapshot for itself whether it is kept, or forgotten.
func wantNames(p impl.Policy, l []impl.Snap, kept bool) []string {
	if !wantPolicyRight(p) || !wantSnapsRight(l) {
		return nil
	}
	var names []string
	for _, s := range l {
		is := wantByLast(l, s, p.Last) || wantByDays(l, s, 1, p.Days) || wantByDays(l, s, 7, p.Weeks) || wantByDays(l, s, 30, p.Months)
		if is == kept {
			names = append(names, s.Name)
		}
	}
	return names
}

func wantRemove(a impl.Array, name string) []impl.Step {
	if !wantArrayRight(a) || !wantObjectRight(name) {
		return nil
	}
	var l []impl.Step
	for i, d := range a.Drives {
		if hasFile(d, name) {
			l = append(l, impl.Step{Drive: int64(i), Op: impl.Op{Kind: 4, Name: name}})
		}
	}
	return l
}

func behindSnaps() impl.Snap { return impl.Snap{Name: "behind", Day: 7, Root: "behind"} }

func (m *softMemory) snaps(l []impl.Snap) []impl.Snap {
	return softList(m, l, behindSnaps(), func(s impl.Snap) impl.Snap {
		return impl.Snap{Name: m.text(s.Name), Day: s.Day, Root: m.text(s.Root)}
	})
}

func checkPolicy(t *testing.T, p impl.Policy, want bool) {
	t.Helper()
	same(t, "as the test has it", wantPolicyRight(p), want)
	for range 2 {
		same(t, fmt.Sprintf("%+v", p), impl.PolicyRight(p), want)
	}
	l := dated(5, 3)
	names := checkKept(t, "a policy", p, l)
	same(t, fmt.Sprintf("names of %+v", p), len(names[0])+len(names[1]) == 2, want)
}

func checkSnapList(t *testing.T, what string, l []impl.Snap, want bool) {
	t.Helper()
	same(t, what+": as the test has it", wantSnapsRight(l), want)
	m := &softMemory{}
	given := m.snaps(l)
	for range 2 {
		same(t, what, impl.SnapsRight(given), want)
		listUnchanged(t, what, given, l, behindSnaps())
	}
	for _, p := range []impl.Policy{{}, {Last: 1}, {Last: 100, Days: 100, Weeks: 100, Months: 100}} {
		names := checkKept(t, what, p, l)
		if !want {
			same(t, what+": no names", len(names[0])+len(names[1]), 0)
		}
	}
}

// checkKept tells the names that are kept, and those that are forgotten.
func checkKept(t *testing.T, what string, p impl.Policy, l []impl.Snap) [2][]string {
	t.Helper()
	var told [2][]string
	for i, call := range []func(impl.Policy, []impl.Snap) []string{impl.Keep, impl.Forget} {
		want, m := wantNames(p, l, i == 0), &softMemory{}
		given := m.snaps(l)
		telling[[]string]{fmt.Sprintf("%s, %s by %+v", what, []string{"Keep", "Forget"}[i], p), m,
			func() []string { return call(p, given) },
			func(what string) { t.Helper(); listUnchanged(t, what, given, l, behindSnaps()) },
			func(what string, got []string) { t.Helper(); sameList(t, what, got, want) },
			func(got []string) []string { return got },
			wrecked[string]}.twice(t)
		told[i] = want
	}
	return told
}

// keeps asks that just those snapshots are kept that have such a letter as their Name, and the others are forgotten.
func keeps(t *testing.T, p impl.Policy, l []impl.Snap, kept string) {
	t.Helper()
	var want [2][]string
	for _, s := range l {
		if strings.Contains(kept, s.Name) {
			want[0] = append(want[0], s.Name)
		} else {
			want[1] = append(want[1], s.Name)
		}
	}
	what := fmt.Sprintf("%+v of %v", p, daysOf(l))
	told := checkKept(t, what, p, l)
	sameList(t, what+": kept, as the test has it", told[0], want[0])
	sameList(t, what+": forgotten, as the test has it", told[1], want[1])
	sameList(t, what+": kept", impl.Keep(p, l), want[0])
	sameList(t, what+": forgotten", impl.Forget(p, l), want[1])
}

func daysOf(l []impl.Snap) []int64 {
	var days []int64
	for _, s := range l {
		days = append(days, s.Day)
	}
	return days
}

// dated are snapshots a, b, c .. of these days.
func dated(days ...int64) []impl.Snap {
	var l []impl.Snap
	for i, day := range days {
		name := string(rune('a' + i))
		l = append(l, impl.Snap{Name: name, Day: day, Root: sha(name)})
	}
	return l
}

// numberedSnaps are so many, of falling Days.
func numberedSnaps(count int) []impl.Snap {
	var l []impl.Snap
	for i := range count {
		name := fmt.Sprintf("n%03d", i)
		l = append(l, impl.Snap{Name: name, Day: int64(1000 - i), Root: sha(name)})
	}
	return l
}

func TestPolicyRight(t *testing.T) {
	checkPolicy(t, impl.Policy{}, true)
	checkPolicy(t, impl.Policy{Last: 100, Days: 100, Weeks: 100, Months: 100}, true)
	for _, others := range []int64{0, 1, 50, 100} {
		for at := range 4 {
			for _, n := range append(edges(100), 50, 256, 1<<32+50) {
				l := slices.Repeat([]int64{others}, 4)
				l[at] = n
				checkPolicy(t, policyOf(l), n >= 0 && n <= 100)
			}
		}
	}
	for at := range 4 {
		for _, n := range []int64{-1, 101, math.MinInt64, math.MaxInt64} {
			for other := range 4 {
				l := slices.Repeat([]int64{100}, 4)
				l[at], l[other] = n, n
				checkPolicy(t, policyOf(l), false)
			}
		}
	}
	checkPolicy(t, impl.Policy{Last: -1, Days: 101, Weeks: math.MinInt64, Months: math.MaxInt64}, false)
	checkPolicy(t, impl.Policy{Last: 101, Days: -101, Weeks: 101, Months: -101}, false)
}

func TestSnapsRightByCounts(t *testing.T) {
	checkSnapList(t, "nil", nil, true)
	for _, count := range []int{0, 1, 2, 50, 99, 100, 101, 102, 200, 399, 400, 401, 402, 800} {
		checkSnapList(t, fmt.Sprint(count), numberedSnaps(count), count <= 100)
	}
}

func TestSnapsRightByOrder(t *testing.T) {
	of := func(names ...string) []impl.Snap {
		var l []impl.Snap
		for i, name := range names {
			l = append(l, impl.Snap{Name: name, Day: int64(i), Root: sha("r")})
		}
		return l
	}
	for _, names := range [][]string{{"a", "b"}, {"a", "aa"}, {"a", "a-"}, {"a-", "a0"}, {"a9", "aa"}, {"a", "a-b", "a0", "ab", "b"}, {"az", "b"}, {"z", "za"},
		{"s-a", "s0", "sa", "t-0-a"}, {strings.Repeat("a", 19), strings.Repeat("a", 20)}, {"a" + strings.Repeat("0", 18), "a" + strings.Repeat("0", 19), "a1"}} {
		checkSnapList(t, fmt.Sprint(names), of(names...), true)
		slices.Reverse(names)
		checkSnapList(t, fmt.Sprint(names), of(names...), false)
		slices.Reverse(names)
		for at := range names {
			twice := slices.Insert(slices.Clone(names), at, names[at])
			checkSnapList(t, fmt.Sprint(twice), of(twice...), false)
		}
	}
	for _, count := range []int{2, 3, 50, 100} {
		for _, at := range somePlaces(count - 1) {
			l := numberedSnaps(count)
			l[at], l[at+1] = l[at+1], l[at]
			checkSnapList(t, fmt.Sprintf("two of %d in the other's place, %d", count, at), l, false)
			l = numberedSnaps(count)
			l[at].Name = l[at+1].Name
			checkSnapList(t, fmt.Sprintf("two of %d of one Name, %d", count, at), l, false)
		}
		l := numberedSnaps(count)
		l[0], l[count-1] = l[count-1], l[0]
		checkSnapList(t, fmt.Sprintf("the first and the last of %d", count), l, false)
		l = numberedSnaps(count)
		l[count-1].Name = l[0].Name
		checkSnapList(t, fmt.Sprintf("the first's Name as the last of %d", count), l, false)
		l = numberedSnaps(count)
		for i := range l {
			l[i].Day, l[i].Root = 5, l[0].Root
		}
		checkSnapList(t, "all of one Day and Root", l, true)
	}
}

func TestSnapsRightByEachOne(t *testing.T) {
	long := strings.Repeat("x", 17)
	changes := map[string]func(s *impl.Snap){
		"no Name": func(s *impl.Snap) { s.Name = "" }, "a Name of 21 bytes": func(s *impl.Snap) { s.Name += long }, "a letter too great": func(s *impl.Snap) { s.Name += "A" },
		"a first digit": func(s *impl.Snap) { s.Name = "0" + s.Name }, "a blank": func(s *impl.Snap) { s.Name += " " }, "a Name of many bytes": func(s *impl.Snap) { s.Name += letters(impl.MaxBytes) },
		"Day -1": func(s *impl.Snap) { s.Day = -1 }, "Day 1000001": func(s *impl.Snap) { s.Day = 1000001 },
		"the least Day": func(s *impl.Snap) { s.Day = math.MinInt64 }, "the greatest Day": func(s *impl.Snap) { s.Day = math.MaxInt64 },
		"no Root": func(s *impl.Snap) { s.Root = "" }, "a Root of 31": func(s *impl.Snap) { s.Root = s.Root[1:] }, "a Root of 33": func(s *impl.Snap) { s.Root += "x" },
		"a Root of many bytes": func(s *impl.Snap) { s.Root = letters(impl.MaxBytes + 1) }, "nothing": func(s *impl.Snap) { *s = impl.Snap{} },
	}
	for what, change := range changes {
		for _, count := range []int{1, 2, 3, 60, 100} {
			for _, at := range somePlaces(count) {
				l := numberedSnaps(count)
				change(&l[at])
				checkSnapList(t, fmt.Sprintf("%s, %d of %d", what, at, count), l, false)
			}
		}
		l := numberedSnaps(100)
		for i := range l {
			change(&l[i])
		}
		checkSnapList(t, what+", all", l, false)
	}
	edge := map[string]func(s *impl.Snap){
		"a Name of 20 bytes": func(s *impl.Snap) { s.Name += long[1:] }, "Day 0": func(s *impl.Snap) { s.Day = 0 }, "Day 1000000": func(s *impl.Snap) { s.Day = 1000000 },
		"a Root of zeros": func(s *impl.Snap) { s.Root = strings.Repeat("\x00", 32) },
	}
	for what, change := range edge {
		for _, at := range somePlaces(100) {
			l := numberedSnaps(100)
			change(&l[at])
			checkSnapList(t, fmt.Sprint(what, " at ", at), l, true)
		}
	}
}

func TestKeepOfWhatIsNotRight(t *testing.T) {
	l := numberedSnaps(5)
	for at := range 4 {
		for _, n := range []int64{-1, 101, math.MinInt64, math.MaxInt64} {
			p := policyOf([]int64{5, 5, 5, 5})
			numbers := numbersOf(p)
			numbers[at] = n
			p = policyOf(numbers)
			for _, l := range [][]impl.Snap{nil, l, l[:1], numberedSnaps(101), numberedSnaps(401)} {
				sameList(t, "kept", impl.Keep(p, l), nil)
				sameList(t, "forgotten", impl.Forget(p, l), nil)
				checkKept(t, "a wrong policy", p, l)
			}
		}
	}
	for _, count := range []int{1, 99, 100, 101, 102, 400, 401, 800} {
		for _, n := range []int64{0, 1, 100} {
			p := impl.Policy{Last: n, Days: n, Weeks: n, Months: n}
			names := checkKept(t, fmt.Sprint(count), p, numberedSnaps(count))
			same(t, fmt.Sprint(count, " told"), len(names[0])+len(names[1]), map[bool]int{true: count}[count <= 100])
			same(t, fmt.Sprint(count, " kept and forgotten"), len(impl.Keep(p, numberedSnaps(count)))+len(impl.Forget(p, numberedSnaps(count))), len(names[0])+len(names[1]))
		}
	}
}

func TestKeepOfNone(t *testing.T) {
	for at := range 4 {
		for _, n := range []int64{0, 1, 100} {
			keeps(t, onlyNumber(at, n), nil, "")
		}
		keeps(t, onlyNumber(at, 0), dated(1), "")
		keeps(t, onlyNumber(at, 1), dated(1), "a")
		keeps(t, onlyNumber(at, 100), dated(1), "a")
	}
	keeps(t, impl.Policy{}, dated(1, 2, 2, 50), "")
}

func TestKeepTheLast(t *testing.T) {
	l := dated(40, 7, 7, 0, 1000000, 8)
	for n, kept := range map[int64]string{0: "", 1: "e", 2: "ea", 3: "eaf", 4: "eafc", 5: "eafcb", 6: "abcdef", 7: "abcdef", 100: "abcdef"} {
		keeps(t, impl.Policy{Last: n}, l, kept)
	}
	many := numberedSnaps(100)
	for n := range int64(101) {
		p := impl.Policy{Last: n}
		same(t, fmt.Sprint(n, " of 100"), len(checkKept(t, "many", p, many)[0]), int(n))
		same(t, fmt.Sprint(n, " of 100, kept"), len(impl.Keep(p, many)), int(n))
		if n > 0 {
			same(t, "the first one, of the greatest Day", impl.Keep(p, many)[0], "n000")
		}
	}
}

// Of 9 snapshots each is 4 days, weeks or months newer than the one ahead of it.
func TestKeepOfDaysWeeksAndMonths(t *testing.T) {
	for at, days := range map[int]int64{1: 1, 2: 7, 3: 30} {
		for _, back := range []int64{0, 1, days - 1} {
			var each []int64
			for i := range int64(9) {
				each = append(each, 4*days*(i+1)-back)
			}
			for n := range int64(11) {
				keeps(t, onlyNumber(at, n), dated(each...), "ihgfedcba"[:min(n, 9)])
			}
			keeps(t, onlyNumber(at, 100), dated(each...), "abcdefghi")
			slices.Reverse(each)
			keeps(t, onlyNumber(at, 3), dated(each...), "abc")
		}
	}
}

func TestKeepAtTheEdgesOfDaysWeeksAndMonths(t *testing.T) {
	type edge struct {
		at    int
		older int64
		newer int64
		apart bool
	}
	l := []edge{
		{1, 0, 0, false}, {1, 0, 1, true}, {1, 5, 6, true}, {1, 999999, 1000000, true}, {1, 1000000, 1000000, false},
		{2, 0, 0, false}, {2, 0, 6, false}, {2, 0, 7, true}, {2, 6, 7, true}, {2, 7, 13, false}, {2, 13, 14, true}, {2, 6, 13, true}, {2, 7, 14, true}, {2, 29, 30, false},
		{2, 34, 35, true}, {2, 999998, 999999, true}, {2, 999998, 1000000, true}, {2, 999999, 1000000, false}, {2, 0, 1000000, true},
		{3, 0, 0, false}, {3, 0, 29, false}, {3, 0, 30, true}, {3, 29, 30, true}, {3, 28, 29, false}, {3, 30, 59, false}, {3, 59, 60, true}, {3, 29, 59, true}, {3, 6, 7, false},
		{3, 999989, 999990, true}, {3, 999989, 1000000, true}, {3, 999990, 1000000, false}, {3, 999999, 1000000, false}, {3, 0, 1000000, true},
	}
	for _, e := range l {
		for _, two := range [][]impl.Snap{dated(e.older, e.newer), dated(e.newer, e.older)} {
			newest := "b"
			if two[0].Day > two[1].Day {
				newest = "a"
			}
			keeps(t, onlyNumber(e.at, 0), two, "")
			keeps(t, onlyNumber(e.at, 1), two, newest)
			for _, n := range []int64{2, 3, 100} {
				keeps(t, onlyNumber(e.at, n), two, map[bool]string{true: "ab", false: newest}[e.apart])
			}
		}
	}
}

func TestKeepTheNewestOfEach(t *testing.T) {
	// Of each day, week or month, the names rising with the days, falling, and neither.
	for n, kept := range map[int64]string{0: "", 1: "c", 2: "cb", 3: "cbf", 100: "cbf"} {
		keeps(t, impl.Policy{Days: n}, dated(8, 8, 9, 5, 5, 5), kept)
	}
	for n, kept := range map[int64]string{0: "", 1: "d", 2: "da", 3: "dab", 100: "dab"} {
		keeps(t, impl.Policy{Weeks: n}, dated(20, 6, 0, 27, 14, 21, 26), kept)
	}
	for n, kept := range map[int64]string{0: "", 1: "e", 2: "eb", 3: "eba", 100: "eba"} {
		keeps(t, impl.Policy{Months: n}, dated(29, 59, 30, 29-1, 600, 0, 58), kept)
	}
	for at := range 4 {
		one := dated(5, 5, 5, 5, 5)
		keeps(t, onlyNumber(at, 1), one, "e")
		keeps(t, onlyNumber(at, 2), one, map[bool]string{true: "ed", false: "e"}[at == 0])
		keeps(t, onlyNumber(at, 100), one, map[bool]string{true: "abcde", false: "e"}[at == 0])
	}
	// Of one Day the greater Name is the newer one, byte by byte.
	l := dated(5, 5, 5, 5)
	l[0].Name, l[1].Name, l[2].Name, l[3].Name = "a", "a-", "a0", "aa"
	sameList(t, "of one Day", impl.Keep(impl.Policy{Days: 1}, l), []string{"aa"})
	sameList(t, "of one Day, three", impl.Keep(impl.Policy{Last: 3}, l), []string{"a-", "a0", "aa"})
	checkKept(t, "of one Day", impl.Policy{Last: 2, Months: 1}, l)
	l[1].Day, l[3].Day = 6, 0
	sameList(t, "of one month", impl.Keep(impl.Policy{Months: 1}, l), []string{"a-"})
	checkKept(t, "of one month", impl.Policy{Months: 1, Last: 2}, l)
}

func TestKeepOfAllTogether(t *testing.T) {
	// Days of the newest on: 100 99 98 91 90 89 60 59 1; their weeks: 14 14 14 13 12 12 8 8 0; their months: 3 3 3 3 3 2 2 1 0.
	l := dated(1, 59, 60, 89, 90, 91, 98, 99, 100)
	for p, kept := range map[impl.Policy]string{
		{Last: 1, Days: 1, Weeks: 1, Months: 1}: "i", {Last: 2, Days: 2, Weeks: 2, Months: 2}: "ihfd", {Last: 4}: "ihgf", {Days: 5}: "ihgfe",
		{Weeks: 5}: "ifeca", {Weeks: 4}: "ifec", {Months: 4}: "idba", {Months: 3}: "idb", {Last: 2, Months: 3}: "ihdb", {Last: 1, Weeks: 3}: "ife", {Days: 2, Weeks: 4}: "ihfec",
		{Weeks: 2, Months: 100}: "ifdba", {Last: 3, Days: 1, Weeks: 5, Months: 2}: "ihgfecad", {Last: 100, Months: 1}: "abcdefghi",
		{Days: 100, Weeks: 1}: "abcdefghi", {Days: 4, Months: 4}: "ihgfdba",
	} {
		keeps(t, p, l, kept)
	}
	// What one rule keeps is counted by the others all the same.
	keeps(t, impl.Policy{Last: 1, Days: 1}, dated(1, 2), "b")
	keeps(t, impl.Policy{Last: 1, Weeks: 2}, dated(1, 8, 9), "ac")
	keeps(t, impl.Policy{Days: 2, Months: 1}, dated(1, 31, 32), "bc")
}

func TestNamesRiseWhateverTheDaysAre(t *testing.T) {
	r := rand.New(rand.NewSource(161))
	for range 50 {
		days := r.Perm(8)
		var l []int64
		for _, day := range days {
			l = append(l, int64(day))
		}
		snaps := dated(l...)
		for n := range int64(10) {
			for at := range 2 {
				p := onlyNumber(at, n)
				for i, s := range snaps {
					same(t, fmt.Sprint("kept ", p, l), slices.Contains(impl.Keep(p, snaps), s.Name), l[i] >= 8-n)
				}
				checkKept(t, "drawn", p, snaps)
				same(t, "kept, rising", slices.IsSorted(impl.Keep(p, snaps)), true)
				same(t, "forgotten, rising", slices.IsSorted(impl.Forget(p, snaps)), true)
			}
		}
	}
}

// drawnSnaps are right, of Days that are near each other, or far.
func drawnSnaps(r *rand.Rand) []impl.Snap {
	byName := map[string]impl.Snap{}
	count := []int{r.Intn(6), r.Intn(20), 100}[r.Intn(3)]
	near := []int64{1, 5, 40, 200, 3000, 1000001}[r.Intn(6)]
	first := r.Int63n(1000001 - near + 1)
	if r.Intn(3) == 0 {
		first = 0
	}
	for range count {
		s := drawnSnap(r)
		s.Day = first + r.Int63n(near)
		byName[s.Name] = s
	}
	for len(byName) < count && count == 100 {
		name := fmt.Sprint("n", r.Intn(1000000))
		byName[name] = impl.Snap{Name: name, Day: first + r.Int63n(near), Root: sha(name)}
	}
	return slices.SortedFunc(maps.Values(byName), func(a, b impl.Snap) int { return strings.Compare(a.Name, b.Name) })
}

func drawnPolicy(r *rand.Rand) impl.Policy {
	var n []int64
	for range 4 {
		n = append(n, []int64{0, r.Int63n(4), r.Int63n(12), r.Int63n(101)}[r.Intn(4)])
	}
	return policyOf(n)
}

func TestKeepOfDrawnSnaps(t *testing.T) {
	r := rand.New(rand.NewSource(162))
	alone := make([]int, 4)
	for range 1200 {
		l, p := drawnSnaps(r), drawnPolicy(r)
		names := checkKept(t, "drawn", p, l)
		// Each number often enough keeps what none of the others does.
		for at := range 4 {
			numbers := numbersOf(p)
			numbers[at] = 0
			if len(wantNames(policyOf(numbers), l, true)) < len(names[0]) {
				alone[at]++
			}
		}
	}
	same(t, fmt.Sprint("enough of each: ", alone), slices.Min(alone) > 100, true)
}

// Promise 21.
func TestKeptAndForgottenAreAllOfThem(t *testing.T) {
	r := rand.New(rand.NewSource(163))
	for range 1500 {
		l, p := drawnSnaps(r), drawnPolicy(r)
		var names []string
		for _, s := range l {
			names = append(names, s.Name)
		}
		kept, forgotten := impl.Keep(p, l), impl.Forget(p, l)
		sameList(t, "together", slices.Sorted(slices.Values(slices.Concat(kept, forgotten))), names)
		if p == (impl.Policy{}) {
			same(t, "kept by none", len(kept), 0)
		} else if len(l) > 0 {
			newest := slices.MaxFunc(l, func(a, b impl.Snap) int {
				if newer(a, b) {
					return 1
				}
				return -1
			})
			same(t, "the newest one", slices.Contains(kept, newest.Name), true)
		}
		sameList(t, "kept by none", impl.Keep(impl.Policy{}, l), nil)
		sameList(t, "forgotten by none", impl.Forget(impl.Policy{}, l), names)
	}
}

// Promise 21: some numbers are greater, and all that was kept is.
func TestMoreIsKeptByAPolicyThatAsksForMore(t *testing.T) {
	r := rand.New(rand.NewSource(164))
	more := 0
	for range 1500 {
		l, p := drawnSnaps(r), drawnPolicy(r)
		numbers := numbersOf(p)
		for at, n := range numbers {
			if r.Intn(2) == 0 {
				numbers[at] = n + []int64{min(1, 100-n), r.Int63n(101 - n), 100 - n}[r.Intn(3)]
			}
		}
		kept, again := impl.Keep(p, l), impl.Keep(policyOf(numbers), l)
		for _, name := range kept {
			same(t, fmt.Sprint(p, " then ", numbers, ": ", name), slices.Contains(again, name), true)
		}
		if len(again) > len(kept) {
			more++
		}
	}
	same(t, fmt.Sprint("enough more: ", more), more > 300, true)
}

func checkRemove(t *testing.T, what string, a impl.Array, name string) []impl.Step {
	t.Helper()
	want, m := wantRemove(a, name), &softMemory{}
	asked := m.text(name)
	askTwice(t, a, telling[[]impl.Step]{what: fmt.Sprintf("RemoveSteps of %d and %d, %q, %s", a.K, a.M, short(name), what), memory: m,
		unchanged: func(what string) { t.Helper(); same(t, what+": name", asked, name) },
		told:      func(what string, got []impl.Step) { t.Helper(); sameList(t, what, got, want) },
		texts: func(l []impl.Step) []string {
			var texts []string
			for _, s := range l {
				texts = append(texts, s.Op.Name)
			}
			return texts
		},
		wreck: wrecked[impl.Step]},
		func(a impl.Array) []impl.Step { return impl.RemoveSteps(a, asked) })
	return want
}

// removes asks for a step for each of these drives, and that they take the object away, and nothing else.
func removes(t *testing.T, what string, a impl.Array, name string, drives ...int) {
	t.Helper()
	var want []impl.Step
	for _, drive := range drives {
		want = append(want, impl.Step{Drive: int64(drive), Op: impl.Op{Kind: impl.OpRemove, Name: name}})
	}
	sameList(t, what+": as the test has it", checkRemove(t, what, a, name), want)
	got := impl.RemoveSteps(a, name)
	sameList(t, what, got, want)
	b := doAll(t, a, got)
	sameArray(t, what+": all others", b, gone(a, name))
	same(t, what+": gone", impl.ObjectGet(b, name).Code, impl.ErrNone)
	for _, other := range impl.ObjectNames(a) {
		if other != name {
			same(t, what+": another object", impl.ObjectGet(b, other), impl.ObjectGet(a, other))
		}
	}
	sameList(t, what+": nothing more", impl.RemoveSteps(b, name), nil)
}

func TestRemoveStepsOfArraysThatAreNotRight(t *testing.T) {
	right := smallRepo(t)
	for i, a := range brokenArrays(right) {
		what := fmt.Sprint("wrong array ", i)
		for _, name := range append(wrongObjects(), "s-one", "s-none", packsIn(right)[0]) {
			checkRemove(t, what, a, name)
			sameList(t, what, impl.RemoveSteps(a, name), nil)
		}
	}
}

func TestRemoveStepsByNames(t *testing.T) {
	a := smallRepo(t)
	for _, name := range wrongObjects() {
		checkRemove(t, "no object's name", a, name)
		sameList(t, "no object's name "+short(name), impl.RemoveSteps(a, name), nil)
		if impl.NameRight(name) {
			b := everywhere(a, name, "there")
			checkArrayRight(t, "files of it", b, true)
			checkRemove(t, "files of it", b, name)
			sameList(t, "files of no object's name "+short(name), impl.RemoveSteps(b, name), nil)
		}
	}
	for _, name := range rightObjects() {
		removes(t, "not there", a, name)
		removes(t, "an object", withObject(a, name, "there"), name, 0, 1, 2)
		removes(t, "files alone", everywhere(a, name, "no frame"), name, 0, 1, 2)
	}
	for _, name := range impl.ObjectNames(a) {
		removes(t, "there", a, name, 0, 1, 2)
		for _, other := range []string{name[:len(name)-1], name + "0", name + "-", "s" + name, name[:2]} {
			removes(t, "a name like it", a, other)
			removes(t, "a name like it is there, too", withObject(a, other, "x"), name, 0, 1, 2)
		}
	}
	long := strings.Repeat("x", impl.MaxBytes+1)
	sameList(t, "a long name", impl.RemoveSteps(a, long), nil)
}

func TestRemoveStepsByDrives(t *testing.T) {
	for _, c := range []code{{1, 0}, {1, 1}, {2, 1}, {2, 2}, {3, 2}} {
		full := putAll(t, putAll(t, emptyArray(c), "x", "hello"), "y", letters(100))
		for set := range 1 << len(full.Drives) {
			a, b, drives := full, gone(full, "x"), []int(nil)
			for i := range full.Drives {
				if set>>i&1 == 1 {
					b = withFileOn(b, i, "x", "no frame")
					drives = append(drives, i)
				} else {
					a = withoutFileOn(a, i, "x")
				}
			}
			removes(t, fmt.Sprintf("on drives %b", set), a, "x", drives...)
			removes(t, fmt.Sprintf("no frames on drives %b", set), b, "x", drives...)
		}
	}
	for _, c := range rightCodes() {
		a, all := putAll(t, emptyArray(c), "s-one", "x"), []int(nil)
		for i := range a.Drives {
			all = append(all, i)
		}
		removes(t, "on all", a, "s-one", all...)
		removes(t, "on none", a, "s-two")
		if len(all) > 1 {
			removes(t, "on all but the first", withoutFileOn(a, 0, "s-one"), "s-one", all[1:]...)
			removes(t, "on all but the last", withoutFileOn(a, len(all)-1, "s-one"), "s-one", all[:len(all)-1]...)
		}
	}
	removes(t, "no files at all", emptyArray(code{2, 1}), "x")
}

func TestRemoveStepsOfHurtFiles(t *testing.T) {
	full := putAll(t, putAll(t, emptyArray(code{3, 2}), "x", letters(50)), "xx", "other")
	for drive := range full.Drives {
		rotten, none, torn, unsynced := copiedArray(full), withFileOn(full, drive, "x", ""), withFileOn(full, drive, "x", ""), copiedArray(full)
		rotten.Drives[drive] = impl.DriveRot(full.Drives[drive], "x", 7, 1)
		at := slices.IndexFunc(full.Drives[drive].Files, func(f impl.Stored) bool { return f.Name == "x" })
		torn.Drives[drive].Files[at].Text = full.Drives[drive].Files[at].Text[:9]
		unsynced.Drives[drive].Files[at].Synced = 0
		for what, a := range map[string]impl.Array{"rotten": rotten, "of no byte": none, "torn": torn, "not synced": unsynced} {
			removes(t, what, a, "x", 0, 1, 2, 3, 4)
			removes(t, what+" alone", onlyOn(a, drive, "x"), "x", drive)
			removes(t, what+", another one", a, "xx", 0, 1, 2, 3, 4)
		}
	}
	removes(t, "lost", lost(full, "x"), "x", 0, 1, 3, 4)
}

// onlyOn has the file on no other drive.
func onlyOn(a impl.Array, drive int, name string) impl.Array {
	for i := range a.Drives {
		if i != drive {
			a = withoutFileOn(a, i, name)
		}
	}
	return a
}

func TestRemoveStepsOfDrawnArrays(t *testing.T) {
	r := rand.New(rand.NewSource(165))
	for range 60 {
		a, _ := drawnMess(t, r)
		a = hurtFiles(r, a, r.Perm(len(a.Drives)), 1+r.Intn(5))
		for _, name := range append(impl.ObjectNames(a), drawnName(r), "s-none") {
			var drives []int
			for i, d := range a.Drives {
				if hasFile(d, name) && wantObjectRight(name) {
					drives = append(drives, i)
				}
			}
			if wantObjectRight(name) {
				removes(t, "drawn", a, name, drives...)
			} else {
				checkRemove(t, "drawn", a, name)
			}
		}
	}
}

// A snapshot that is forgotten is none behind its steps, and all others are as they were.
func TestForgottenSnapshotsAreRemoved(t *testing.T) {
	r := rand.New(rand.NewSource(166))
	removed, left := 0, 0
	for range 60 {
		a, snaps := drawnRepo(t, r, drawnCode(r))
		l, p := impl.Snaps(a), impl.Policy{Last: r.Int63n(3), Months: r.Int63n(2)}
		for _, name := range impl.Forget(p, l) {
			a = doAll(t, a, impl.RemoveSteps(a, "s-"+name))
			delete(snaps, name)
			removed++
		}
		var names []string
		for _, s := range impl.Snaps(a) {
			names = append(names, s.Name)
		}
		sameList(t, "snapshots behind it", names, impl.Keep(p, l))
		restoresAll(t, "behind it", a, snaps)
		left += len(names)
	}
	same(t, fmt.Sprint("enough of each: ", removed, left), removed > 20 && left > 20, true)
}

// What a map has is gone through in another order each time.
func TestNamesAreToldInOneOrder(t *testing.T) {
	l, p := numberedSnaps(100), impl.Policy{Last: 20, Days: 30, Weeks: 10, Months: 4}
	kept, forgotten := wantNames(p, l, true), wantNames(p, l, false)
	for range 50 {
		sameList(t, "Keep", impl.Keep(p, l), kept)
		sameList(t, "Forget", impl.Forget(p, l), forgotten)
	}
}

func TestRetainSideBySide(t *testing.T) {
	const workers = 16
	a, l := smallRepo(t), numberedSnaps(100)
	var kept, forgotten [workers][]string
	var steps [workers][]impl.Step
	var group sync.WaitGroup
	for i := range workers {
		group.Go(func() {
			p := impl.Policy{Last: int64(i), Weeks: int64(i)}
			kept[i], forgotten[i] = impl.Keep(p, l), impl.Forget(p, l)
			steps[i] = impl.RemoveSteps(a, "s-one")
		})
	}
	group.Wait()
	for i := range workers {
		p := impl.Policy{Last: int64(i), Weeks: int64(i)}
		sameList(t, "Keep", kept[i], wantNames(p, l, true))
		sameList(t, "Forget", forgotten[i], wantNames(p, l, false))
		sameList(t, "RemoveSteps", steps[i], wantRemove(a, "s-one"))
	}
}
