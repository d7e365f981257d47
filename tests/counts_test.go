package tests

import (
	"math"
	"math/rand"
	"slices"
	"testing"

	"loop.example/s01595/impl"
)

// countList begins with the two slots, whose counts are 0.
func countList(counts ...int64) []int64 {
	return append([]int64{0, 0}, counts...)
}

// plainRuns tells the runs from their ends: a run begins where the block before has another count.
func plainRuns(counts []int64) []impl.Run {
	out := []impl.Run{}
	for start := range counts {
		if counts[start] == 0 || start > 0 && counts[start-1] == counts[start] {
			continue
		}
		end := start
		for end < len(counts) && counts[end] == counts[start] {
			end++
		}
		out = append(out, impl.Run{Start: int64(start), Len: int64(end - start), Count: counts[start]})
	}
	return out
}

func inOrder(runs []impl.Run) bool {
	for i, r := range runs {
		if r.Start < 2 || r.Len < 1 || r.Start+r.Len > 512 || r.Count < 1 || r.Count > 65535 {
			return false
		}
		if i == 0 {
			continue
		}
		end := runs[i-1].Start + runs[i-1].Len
		if r.Start < end || r.Start == end && r.Count == runs[i-1].Count {
			return false
		}
	}
	return true
}

// wantRoundTrip looks at promise 4 for one list.
func wantRoundTrip(t *testing.T, counts []int64) {
	t.Helper()
	before := slices.Clone(counts)
	runs, code := impl.RunsOf(counts)
	if code != impl.OK || !slices.Equal(runs, plainRuns(before)) || !inOrder(runs) {
		t.Fatalf("RunsOf(%v) is %v (code %d), want %v", before, runs, code, plainRuns(before))
	}
	kept := slices.Clone(runs)
	back, code := impl.CountsOf(int64(len(counts)), runs)
	if code != impl.OK || !slices.Equal(back, before) {
		t.Fatalf("CountsOf(%v) is %v (code %d), want %v", runs, back, code, before)
	}
	if !slices.Equal(counts, before) || !slices.Equal(runs, kept) {
		t.Fatalf("an argument was changed: %v, %v", counts, runs)
	}
}

// everyList tells each list of that many blocks behind the slots with counts below kinds.
func everyList(blocks int, kinds int64, look func(counts []int64)) {
	counts := make([]int64, blocks+2)
	for {
		look(counts)
		at := 2
		for at < len(counts) && counts[at] == kinds-1 {
			counts[at] = 0
			at++
		}
		if at == len(counts) {
			return
		}
		counts[at]++
	}
}

func TestRunsOfEverySmallList(t *testing.T) {
	everyList(6, 4, func(counts []int64) { wantRoundTrip(t, counts) })
}

func TestRunsOfLongLists(t *testing.T) {
	for _, blocks := range []int{8, 9, 511, 512} {
		equal := make([]int64, blocks)
		steps := make([]int64, blocks)
		for b := 2; b < blocks; b++ {
			equal[b] = 65535
			steps[b] = int64(1 + b%2)
		}
		wantRoundTrip(t, make([]int64, blocks))
		wantRoundTrip(t, equal)
		wantRoundTrip(t, steps)
		for b := 2; b < blocks; b++ {
			one := make([]int64, blocks)
			one[b] = int64(b)
			wantRoundTrip(t, one)
		}
	}
}

func TestRunsOfRandomLists(t *testing.T) {
	r := rand.New(rand.NewSource(4))
	for range 500 {
		wantRoundTrip(t, randomCounts(r, 8+r.Intn(505)))
	}
}

func randomCounts(r *rand.Rand, blocks int) []int64 {
	counts := make([]int64, blocks)
	kinds := []int64{0, 1, 1, 2, 65534, 65535}
	for b := 2; b < blocks; b++ {
		counts[b] = kinds[r.Intn(len(kinds))]
		if r.Intn(2) == 0 {
			counts[b] = counts[b-1]
		}
	}
	return counts
}

type badCounts struct {
	name   string
	counts []int64
	code   int64
}

// wrongCounts are lists that no call takes, each with the code that comes first.
func wrongCounts() []badCounts {
	return []badCounts{
		{"nil", nil, impl.ErrDevice},
		{"empty", []int64{}, impl.ErrDevice},
		{"one block", []int64{0}, impl.ErrDevice},
		{"7 blocks", make([]int64, 7), impl.ErrDevice},
		{"513 blocks", make([]int64, 513), impl.ErrDevice},
		{"7 blocks, out of range", []int64{1, 0, 0, 0, 0, 0, -1}, impl.ErrDevice},
		{"513 blocks, a slot counted", append([]int64{1}, make([]int64, 512)...), impl.ErrDevice},
		{"below 0", countList(0, 0, -1, 0, 0, 0), impl.ErrRange},
		{"above MaxCount", countList(0, 0, 65536, 0, 0, 0), impl.ErrRange},
		{"least", countList(math.MinInt64, 0, 0, 0, 0, 0), impl.ErrRange},
		{"greatest, last", countList(0, 0, 0, 0, 0, math.MaxInt64), impl.ErrRange},
		{"slot 0 out of range", []int64{-1, 0, 0, 0, 0, 0, 0, 0}, impl.ErrRange},
		{"slot 1 out of range", []int64{0, 65536, 0, 0, 0, 0, 0, 0}, impl.ErrRange},
		{"a slot counted and the last out of range", []int64{1, 0, 0, 0, 0, 0, 0, -1}, impl.ErrRange},
		{"slot 0 counted", []int64{1, 0, 0, 0, 0, 0, 0, 0}, impl.ErrForm},
		{"slot 1 counted", []int64{0, 65535, 0, 0, 0, 0, 0, 0}, impl.ErrForm},
	}
}

func TestWrongCounts(t *testing.T) {
	for _, w := range wrongCounts() {
		runs, code := impl.RunsOf(w.counts)
		wantCode(t, "RunsOf, "+w.name, code, w.code)
		if len(runs) != 0 {
			t.Errorf("RunsOf, %s: refused with runs %v", w.name, runs)
		}
	}
}

func manyRuns(number int) []impl.Run {
	out := make([]impl.Run, number)
	for i := range out {
		out[i] = impl.Run{Start: int64(i), Len: 1, Count: int64(1 + i%2)}
	}
	return out
}

func TestRunsThatAreTaken(t *testing.T) {
	cases := []struct {
		blocks int64
		runs   []impl.Run
		want   []int64
	}{
		{8, nil, make([]int64, 8)},
		{8, []impl.Run{{Start: 2, Len: 6, Count: 1}}, countList(1, 1, 1, 1, 1, 1)},
		{8, []impl.Run{{Start: 7, Len: 1, Count: 65535}}, countList(0, 0, 0, 0, 0, 65535)},
		{8, []impl.Run{{Start: 2, Len: 1, Count: 1}, {Start: 4, Len: 1, Count: 1}}, countList(1, 0, 1, 0, 0, 0)},
		{8, []impl.Run{{Start: 2, Len: 2, Count: 1}, {Start: 4, Len: 2, Count: 2}}, countList(1, 1, 2, 2, 0, 0)},
	}
	for _, c := range cases {
		got, code := impl.CountsOf(c.blocks, c.runs)
		if code != impl.OK || !slices.Equal(got, c.want) {
			t.Errorf("CountsOf(%d, %v) is %v (code %d)", c.blocks, c.runs, got, code)
		}
	}
	all, code := impl.CountsOf(512, []impl.Run{{Start: 2, Len: 510, Count: 3}})
	if code != impl.OK || len(all) != 512 || all[1] != 0 || all[2] != 3 || all[511] != 3 {
		t.Errorf("the longest run: code %d, %v", code, all)
	}
	_, code = impl.CountsOf(512, manyRuns(512)[2:])
	wantCode(t, "510 runs", code, impl.OK)
}

func TestWrongRuns(t *testing.T) {
	good := impl.Run{Start: 4, Len: 2, Count: 7}
	bad := map[string][]impl.Run{
		"start below 2":           {{Start: 1, Len: 1, Count: 1}},
		"start at 0":              {{Start: 0, Len: 1, Count: 1}},
		"start at the end":        {{Start: 8, Len: 1, Count: 1}},
		"start at 512":            {{Start: 512, Len: 1, Count: 1}},
		"start least":             {{Start: math.MinInt64, Len: 1, Count: 1}},
		"start greatest":          {{Start: math.MaxInt64, Len: 1, Count: 1}},
		"len 0":                   {{Start: 2, Len: 0, Count: 1}},
		"len below 0":             {{Start: 4, Len: -1, Count: 1}},
		"len one beyond":          {{Start: 2, Len: 7, Count: 1}},
		"len beyond 512":          {{Start: 2, Len: 511, Count: 1}},
		"len least":               {{Start: 2, Len: math.MinInt64, Count: 1}},
		"len greatest":            {{Start: 2, Len: math.MaxInt64, Count: 1}},
		"both greatest":           {{Start: math.MaxInt64, Len: math.MaxInt64, Count: 1}},
		"both least":              {{Start: math.MinInt64, Len: math.MinInt64, Count: 1}},
		"end wraps into bounds":   {{Start: math.MaxInt64, Len: math.MinInt64 + 5, Count: 1}},
		"count 0":                 {{Start: 2, Len: 1, Count: 0}},
		"count below 0":           {{Start: 2, Len: 1, Count: -1}},
		"count above MaxCount":    {{Start: 2, Len: 1, Count: 65536}},
		"count least":             {{Start: 2, Len: 1, Count: math.MinInt64}},
		"count greatest":          {{Start: 2, Len: 1, Count: math.MaxInt64}},
		"all zero":                {{}},
		"second is wrong":         {good, {Start: 7, Len: 1, Count: 0}},
		"second overlaps":         {good, {Start: 5, Len: 1, Count: 1}},
		"second is the same":      {good, good},
		"second is ahead":         {good, {Start: 2, Len: 1, Count: 1}},
		"touch with one count":    {good, {Start: 6, Len: 1, Count: 7}},
		"second beyond the end":   {good, {Start: 7, Len: 2, Count: 1}},
		"third touches second":    {{Start: 2, Len: 1, Count: 7}, good, {Start: 6, Len: 2, Count: 7}},
		"513 runs":                manyRuns(515)[2:],
		"513 runs, all the same":  slices.Repeat([]impl.Run{good}, 513),
		"second ends beyond 512":  {good, {Start: 511, Len: 2, Count: 1}},
		"first beyond, then good": {{Start: 2, Len: 9, Count: 1}, {Start: 11, Len: 1, Count: 2}},
	}
	for name, runs := range bad {
		kept := slices.Clone(runs)
		got, code := impl.CountsOf(8, runs)
		wantCode(t, name, code, impl.ErrForm)
		if len(got) != 0 {
			t.Errorf("%s: refused with counts %v", name, got)
		}
		if !slices.Equal(runs, kept) {
			t.Errorf("%s: the runs were changed", name)
		}
	}
	for _, end := range []int64{8, 9, 100, 511, 512} {
		_, code := impl.CountsOf(end, []impl.Run{{Start: 3, Len: end - 3, Count: 1}})
		wantCode(t, "up to the end", code, impl.OK)
		_, code = impl.CountsOf(end, []impl.Run{{Start: 3, Len: end - 2, Count: 1}})
		wantCode(t, "one beyond the end", code, impl.ErrForm)
	}
}

func TestCountsOfBlocks(t *testing.T) {
	for _, blocks := range []int64{math.MinInt64, -8, 0, 7, 513, math.MaxInt64} {
		got, code := impl.CountsOf(blocks, []impl.Run{{}})
		wantCode(t, "blocks come ahead of runs", code, impl.ErrDevice)
		if len(got) != 0 {
			t.Errorf("%d blocks: refused with %d counts", blocks, len(got))
		}
	}
	for _, blocks := range []int64{8, 512} {
		got, code := impl.CountsOf(blocks, nil)
		if code != impl.OK || !slices.Equal(got, make([]int64, blocks)) {
			t.Errorf("%d blocks: %v, code %d", blocks, got, code)
		}
	}
}

func TestReserve(t *testing.T) {
	for blocks := int64(8); blocks <= 512; blocks++ {
		if got, want := impl.Reserve(blocks), (blocks+17)/20; got != want {
			t.Errorf("Reserve(%d) is %d, want %d", blocks, got, want)
		}
	}
	for _, blocks := range []int64{math.MinInt64, -20, -1, 0, 2, 7, 513, 514, math.MaxInt64} {
		if got := impl.Reserve(blocks); got != 0 {
			t.Errorf("Reserve(%d) is %d, want 0", blocks, got)
		}
	}
}

// plainFree is every free block, by the document's words.
func plainFree(cur, com []int64) []int64 {
	out := []int64{}
	for b := 2; b < len(cur); b++ {
		if cur[b] == 0 && com[b] == 0 {
			out = append(out, int64(b))
		}
	}
	return out
}

func plainClass(b int, cur, com int64) int64 {
	if b < 2 {
		return 1
	}
	if cur > 0 {
		return 2
	}
	if com > 0 {
		return 3
	}
	return 4
}

// plainPlan tries each k with a list of its own.
func plainPlan(cur, com []int64) ([]int64, []impl.Run, int64) {
	free := plainFree(cur, com)
	for k := 1; k <= len(free); k++ {
		counts := slices.Clone(cur)
		for _, b := range free[:k] {
			counts[b] = 1
		}
		if runs := plainRuns(counts); len(runs) <= 20*k {
			return free[:k], runs, impl.OK
		}
	}
	return nil, nil, impl.ErrNoSpace
}

// wantFreeAndPlan looks at promise 5 for two lists.
func wantFreeAndPlan(t *testing.T, cur, com []int64) {
	t.Helper()
	curBefore, comBefore := slices.Clone(cur), slices.Clone(com)
	free := plainFree(cur, com)
	block, code := impl.LowestFree(cur, com)
	if len(free) > 0 && (block != free[0] || code != impl.OK) {
		t.Fatalf("LowestFree(%v, %v) is %d (code %d)", cur, com, block, code)
	}
	if len(free) == 0 && (block != 0 || code != impl.ErrNoSpace) {
		t.Fatalf("LowestFree(%v, %v) is %d (code %d), want no space", cur, com, block, code)
	}
	classes, code := impl.Classify(cur, com)
	wantCode(t, "Classify", code, impl.OK)
	if len(classes) != len(cur) {
		t.Fatalf("%d classes of %d blocks", len(classes), len(cur))
	}
	for b, class := range classes {
		if class != plainClass(b, cur[b], com[b]) {
			t.Fatalf("block %d of %v, %v has class %d", b, cur, com, class)
		}
	}
	plan, runs, code := impl.PlanTable(cur, com)
	wantPlan, wantRuns, want := plainPlan(cur, com)
	if code != want || !slices.Equal(plan, wantPlan) || !slices.Equal(runs, wantRuns) {
		t.Fatalf("PlanTable(%v, %v) is %v, %v (code %d), want %v, %v (code %d)", cur, com, plan, runs, code, wantPlan, wantRuns, want)
	}
	if code != impl.OK && int64(len(free)) >= impl.Reserve(int64(len(cur))) {
		t.Fatalf("PlanTable(%v, %v) is refused with %d free blocks", cur, com, len(free))
	}
	if !slices.Equal(cur, curBefore) || !slices.Equal(com, comBefore) {
		t.Fatalf("an argument was changed: %v, %v", cur, com)
	}
}

func TestPlanOfEverySmallList(t *testing.T) {
	everyList(6, 3, func(cur []int64) {
		for _, com := range [][]int64{make([]int64, 8), countList(1, 1, 0, 0, 0, 0), countList(0, 0, 2, 0, 0, 1), countList(1, 1, 1, 1, 1, 1)} {
			wantFreeAndPlan(t, cur, com)
		}
	})
}

func TestPlanOfRandomLists(t *testing.T) {
	r := rand.New(rand.NewSource(5))
	for range 1000 {
		blocks := 8 + r.Intn(505)
		wantFreeAndPlan(t, randomCounts(r, blocks), randomCounts(r, blocks))
	}
}

// stripes have as many runs as blocks behind the slots; the blocks that are named stay free.
func stripes(blocks int, free ...int) []int64 {
	counts := make([]int64, blocks)
	for b := 2; b < blocks; b++ {
		counts[b] = int64(2 + b%2)
	}
	for _, b := range free {
		counts[b] = 0
	}
	return counts
}

func TestPlanWithJustTheReserve(t *testing.T) {
	r := rand.New(rand.NewSource(55))
	for blocks := 8; blocks <= 512; blocks++ {
		need := int(impl.Reserve(int64(blocks)))
		none := make([]int64, blocks)
		for range 3 {
			places := r.Perm(blocks - 2)[:need]
			for i := range places {
				places[i] += 2
			}
			wantFreeAndPlan(t, stripes(blocks, places...), none)
			wantFreeAndPlan(t, stripes(blocks, places[1:]...), none)
		}
		wantFreeAndPlan(t, stripes(blocks), none)
	}
}

// Ahead of the rest lie 19 runs, so that one table block is enough only when there are no two runs more, its own among them.
func TestPlanHangsOnItself(t *testing.T) {
	behind19 := func(rest ...int64) []int64 {
		return append(stripes(21), rest...)
	}
	cases := []struct {
		name string
		cur  []int64
		com  []int64
		plan []int64
		runs int
		code int64
	}{
		{"joins the run before", behind19(1, 0, 0), make([]int64, 24), []int64{22}, 20, impl.OK},
		{"joins the run behind", behind19(0, 1, 1), make([]int64, 24), []int64{21}, 20, impl.OK},
		{"joins two runs to one", behind19(1, 0, 1), make([]int64, 24), []int64{22}, 20, impl.OK},
		{"stands alone and fits", behind19(0, 0, 0), make([]int64, 24), []int64{21}, 20, impl.OK},
		{"stands alone, and one more is needed", behind19(3, 0, 0), make([]int64, 24), []int64{22, 23}, 21, impl.OK},
		{"stands between two of one count", behind19(3, 0, 3, 0), make([]int64, 25), []int64{22, 24}, 23, impl.OK},
		{"one more is needed and is not there", behind19(3, 0, 3), make([]int64, 24), nil, 0, impl.ErrNoSpace},
		{"one more is needed and is pinned", behind19(3, 0, 3, 0), append(make([]int64, 24), 1), nil, 0, impl.ErrNoSpace},
		{"none is free", behind19(3, 2, 3), make([]int64, 24), nil, 0, impl.ErrNoSpace},
		{"all that is not live is pinned", behind19(0, 0, 0), append(make([]int64, 21), 1, 1, 1), nil, 0, impl.ErrNoSpace},
	}
	for _, c := range cases {
		plan, runs, code := impl.PlanTable(c.cur, c.com)
		wantCode(t, c.name, code, c.code)
		if !slices.Equal(plan, c.plan) || len(runs) != c.runs {
			t.Errorf("%s: plan %v, %d runs, want %v, %d", c.name, plan, len(runs), c.plan, c.runs)
		}
		wantFreeAndPlan(t, c.cur, c.com)
	}
}

// callsOfTwo are the calls that take both lists; each tells its code and whether all else was empty.
func callsOfTwo() map[string]func(cur, com []int64) (int64, bool) {
	return map[string]func(cur, com []int64) (int64, bool){
		"LowestFree": func(cur, com []int64) (int64, bool) {
			block, code := impl.LowestFree(cur, com)
			return code, block == 0
		},
		"Classify": func(cur, com []int64) (int64, bool) {
			classes, code := impl.Classify(cur, com)
			return code, len(classes) == 0
		},
		"PlanTable": func(cur, com []int64) (int64, bool) {
			plan, runs, code := impl.PlanTable(cur, com)
			return code, len(plan) == 0 && len(runs) == 0
		},
	}
}

func TestWrongPairs(t *testing.T) {
	full := countList(1, 1, 1, 1, 1, 1)
	cases := []struct {
		name     string
		cur, com []int64
		code     int64
	}{
		{"8 and 9 blocks", make([]int64, 8), make([]int64, 9), impl.ErrDevice},
		{"9 and 8 blocks", make([]int64, 9), make([]int64, 8), impl.ErrDevice},
		{"8 blocks and none", make([]int64, 8), nil, impl.ErrDevice},
		{"lengths come ahead of range", countList(-1, 0, 0, 0, 0, 0), make([]int64, 9), impl.ErrDevice},
		{"lengths come ahead of form", []int64{1, 0, 0, 0, 0, 0, 0, 0}, make([]int64, 513), impl.ErrDevice},
		{"7 and 7", make([]int64, 7), make([]int64, 7), impl.ErrDevice},
		{"513 and 513", make([]int64, 513), make([]int64, 513), impl.ErrDevice},
		{"range of the second ahead of form of the first", []int64{1, 0, 0, 0, 0, 0, 0, 0}, countList(0, 0, 0, 0, 0, 65536), impl.ErrRange},
		{"range of the first ahead of form of the second", countList(0, 0, 0, 0, 0, -1), []int64{0, 1, 0, 0, 0, 0, 0, 0}, impl.ErrRange},
		{"form ahead of space", full, []int64{0, 1, 0, 0, 0, 0, 0, 0}, impl.ErrForm},
	}
	for call, ask := range callsOfTwo() {
		for _, c := range cases {
			code, empty := ask(c.cur, c.com)
			wantCode(t, call+", "+c.name, code, c.code)
			if !empty {
				t.Errorf("%s, %s: refused with an answer", call, c.name)
			}
		}
		for _, w := range wrongCounts() {
			other := full
			if len(w.counts) != 8 {
				other = w.counts
			}
			first, _ := ask(w.counts, other)
			second, _ := ask(other, w.counts)
			wantCode(t, call+", first "+w.name, first, w.code)
			wantCode(t, call+", second "+w.name, second, w.code)
		}
	}
}

func TestCountsShareNothing(t *testing.T) {
	cur, com := countList(1, 0, 0, 2, 2, 0), countList(1, 1, 0, 0, 0, 0)
	curBefore, comBefore := slices.Clone(cur), slices.Clone(com)
	classes, _ := impl.Classify(cur, com)
	plan, planRuns, _ := impl.PlanTable(cur, com)
	runs, _ := impl.RunsOf(cur)
	counts, _ := impl.CountsOf(8, runs)
	runsBefore := slices.Clone(runs)
	turnNumbers(classes)
	turnNumbers(plan)
	turnNumbers(counts)
	turnRuns(planRuns)
	if !slices.Equal(runs, runsBefore) {
		t.Errorf("the runs are changed by what came of them: %v", runs)
	}
	turnRuns(runs)
	if !slices.Equal(cur, curBefore) || !slices.Equal(com, comBefore) {
		t.Errorf("an argument is changed by an answer: %v, %v", cur, com)
	}
}

func turnNumbers(list []int64) {
	list = list[:cap(list)]
	for i := range list {
		list[i] = ^list[i]
	}
}

func turnRuns(list []impl.Run) {
	list = list[:cap(list)]
	for i := range list {
		list[i] = impl.Run{Start: ^list[i].Start, Len: ^list[i].Len, Count: ^list[i].Count}
	}
}
