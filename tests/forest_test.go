package tests

import (
	"maps"
	"math"
	"math/rand"
	"slices"
	"strings"
	"testing"

	"loop.example/s01595/impl"
)

func put(tree int64, key, val string) impl.TreeOp {
	return impl.TreeOp{Kind: impl.OpPut, Tree: tree, Key: key, Val: val}
}

func del(tree int64, key string) impl.TreeOp {
	return impl.TreeOp{Kind: impl.OpDelete, Tree: tree, Key: key}
}

func get(tree int64, key string) impl.TreeOp {
	return impl.TreeOp{Kind: impl.OpGet, Tree: tree, Key: key}
}

func clone(tree int64) impl.TreeOp {
	return impl.TreeOp{Kind: impl.OpClone, Tree: tree}
}

func drop(tree int64) impl.TreeOp {
	return impl.TreeOp{Kind: impl.OpDrop, Tree: tree}
}

func commit() impl.TreeOp {
	return impl.TreeOp{Kind: impl.OpCommit}
}

// puts has one put for each byte of keys.
func puts(tree int64, keys string) []impl.TreeOp {
	out := []impl.TreeOp{}
	for _, k := range keys {
		out = append(out, put(tree, string(k), "v"+string(k)))
	}
	return out
}

func dels(tree int64, keys string) []impl.TreeOp {
	out := []impl.TreeOp{}
	for _, k := range keys {
		out = append(out, del(tree, string(k)))
	}
	return out
}

func mustRun(t *testing.T, blocks int64, ops []impl.TreeOp) []impl.TreeAns {
	t.Helper()
	answers, code := impl.TreeRun(blocks, ops)
	if code != impl.OK || len(answers) != len(ops) {
		t.Fatalf("TreeRun: code %d, %d answers to %d operations", code, len(answers), len(ops))
	}
	return answers
}

func mustScan(t *testing.T, blocks int64, ops []impl.TreeOp, tree int64) []impl.Item {
	t.Helper()
	items, code := impl.TreeScan(blocks, ops, tree, "", math.MaxInt64)
	if code != impl.OK {
		t.Fatalf("TreeScan of tree %d: code %d", tree, code)
	}
	return items
}

func mustShape(t *testing.T, blocks int64, ops []impl.TreeOp, tree int64) []impl.NodeView {
	t.Helper()
	views, code := impl.TreeShape(blocks, ops, tree)
	if code != impl.OK {
		t.Fatalf("TreeShape of tree %d: code %d", tree, code)
	}
	return views
}

func mustCounts(t *testing.T, blocks int64, ops []impl.TreeOp) ([]int64, []int64) {
	t.Helper()
	cur, com, code := impl.TreeCounts(blocks, ops)
	if code != impl.OK || int64(len(cur)) != blocks || int64(len(com)) != blocks {
		t.Fatalf("TreeCounts: code %d, %d and %d counts of %d blocks", code, len(cur), len(com), blocks)
	}
	return cur, com
}

// liveTrees goes by the answers alone.
func liveTrees(ops []impl.TreeOp, answers []impl.TreeAns) []int64 {
	live := []int64{0}
	for i, op := range ops {
		if answers[i].Code != impl.OK {
			continue
		}
		if op.Kind == impl.OpClone {
			live = append(live, answers[i].Value)
		}
		if op.Kind == impl.OpDrop {
			live = slices.DeleteFunc(live, func(tree int64) bool { return tree == op.Tree })
		}
	}
	return live
}

// habit says how often each kind of operation comes in a random row.
type habit struct {
	puts, deletes, gets, clones, drops, commits, wrong int
}

func (h habit) kind(r *rand.Rand) int64 {
	weights := []int{h.puts, h.deletes, h.clones, h.drops, h.commits, h.gets, h.wrong}
	sum := 0
	for _, w := range weights {
		sum += w
	}
	at := r.Intn(sum)
	for i, w := range weights {
		if at < w {
			return int64(i + 1)
		}
		at -= w
	}
	return 0
}

// randomOps knows which trees live, as clones and drops never want for space; now and then it aims at one that does not.
func randomOps(r *rand.Rand, number, keys int, h habit) []impl.TreeOp {
	out := make([]impl.TreeOp, number)
	live, next := []int64{0}, int64(1)
	for i := range out {
		kind := h.kind(r)
		tree := live[r.Intn(len(live))]
		if r.Intn(25) == 0 {
			tree = r.Int63n(next + 1)
		}
		key := strings.Repeat("k", r.Intn(2)) + string(rune('A'+r.Intn(keys)))
		out[i] = impl.TreeOp{Kind: kind, Tree: tree, Key: key, Val: randomText(r, 10)}
		if kind == 7 {
			out[i] = wrongOp(r, out[i])
		}
		live, next = treesAfter(live, next, out[i])
	}
	return out
}

func treesAfter(live []int64, next int64, op impl.TreeOp) ([]int64, int64) {
	at := slices.Index(live, op.Tree)
	switch {
	case at < 0:
	case op.Kind == impl.OpClone && len(live) < 16:
		return append(live, next), next + 1
	case op.Kind == impl.OpDrop && len(live) > 1:
		return slices.Delete(live, at, at+1), next
	}
	return live, next
}

func wrongOp(r *rand.Rand, op impl.TreeOp) impl.TreeOp {
	op.Kind = 1 + r.Int63n(6)
	switch r.Intn(5) {
	case 0:
		op.Kind = []int64{0, -1, 7, math.MinInt64, math.MaxInt64}[r.Intn(5)]
	case 1:
		op.Tree = []int64{-1, 99999, math.MinInt64, math.MaxInt64}[r.Intn(4)]
	case 2:
		op.Key = strings.Repeat("x", 13)
	case 3:
		op.Val = strings.Repeat("x", 11)
	case 4:
		op.Key = ""
	}
	return op
}

type row struct {
	name   string
	blocks int64
	ops    []impl.TreeOp
}

// someRows are rows of operations of many tempers, on devices where blocks are many or few.
func someRows(seed int64, number int) []row {
	r := rand.New(rand.NewSource(seed))
	return []row{
		{"one tree grows", 512, randomOps(r, number, 40, habit{puts: 9, gets: 1})},
		{"one tree breathes", 512, randomOps(r, number, 20, habit{puts: 5, deletes: 5})},
		{"clones", 512, randomOps(r, number, 20, habit{puts: 10, deletes: 8, gets: 2, clones: 2, drops: 2, wrong: 2})},
		{"clones and commits", 512, randomOps(r, number, 20, habit{puts: 10, deletes: 10, clones: 1, drops: 1, commits: 1, wrong: 1})},
		{"a commit after each few", 512, randomOps(r, number, 30, habit{puts: 4, deletes: 3, clones: 1, drops: 1, commits: 4})},
		{"8 blocks", 8, randomOps(r, number, 8, habit{puts: 4, deletes: 2, clones: 1, drops: 1, commits: 3, wrong: 1})},
		{"12 blocks", 12, randomOps(r, number, 20, habit{puts: 5, deletes: 3, clones: 1, drops: 1, commits: 2})},
		{"24 blocks", 24, randomOps(r, number, 30, habit{puts: 8, deletes: 4, clones: 1, drops: 1, commits: 2})},
		{"60 blocks", 60, randomOps(r, number, 50, habit{puts: 20, deletes: 10, clones: 1, drops: 1, commits: 1})},
	}
}

// wantLikeModel holds what can be seen of a forest against the model.
func wantLikeModel(t *testing.T, name string, blocks int64, ops []impl.TreeOp, p *plainForest, whole bool) {
	t.Helper()
	cur, com := mustCounts(t, blocks, ops)
	if !slices.Equal(cur, p.counts()) || !slices.Equal(com, p.com) {
		t.Fatalf("%s, %d operations, the last %+v: counts\n%v\n%v\nwant\n%v\n%v", name, len(ops), ops[len(ops)-1], cur, com, p.counts(), p.com)
	}
	if !whole {
		return
	}
	for _, root := range p.roots {
		views := mustShape(t, blocks, ops, root.Tree)
		if !slices.Equal(views, p.shape(root.Block, 0)) {
			t.Fatalf("%s, %d operations: tree %d is\n%v\nwant\n%v", name, len(ops), root.Tree, views, p.shape(root.Block, 0))
		}
		items := mustScan(t, blocks, ops, root.Tree)
		if !slices.Equal(items, p.items(root.Block)) {
			t.Fatalf("%s, %d operations: tree %d has\n%v\nwant\n%v", name, len(ops), root.Tree, items, p.items(root.Block))
		}
	}
}

func TestForestAgainstModel(t *testing.T) {
	for _, row := range someRows(6, 220) {
		answers := mustRun(t, row.blocks, row.ops)
		p := newPlainForest(row.blocks)
		for i, op := range row.ops {
			if want := p.do(op); answers[i] != want {
				t.Fatalf("%s, operation %d, %+v: answer %+v, want %+v", row.name, i, op, answers[i], want)
			}
			wantLikeModel(t, row.name, row.blocks, row.ops[:i+1], p, i%5 == 0 || i == len(row.ops)-1)
		}
	}
}

// Every way to put a few keys in and take a few out again, so that each split and each merge comes at each place.
func TestEveryPlaceOfSplitAndMerge(t *testing.T) {
	base := puts(0, "bdfhjlnprtvx")
	more := append(slices.Clone(base), puts(0, "CDEFGHIJKLMNOPQRS")...)
	for _, ops := range [][]impl.TreeOp{base, more, append(slices.Clone(base), commit()), append(slices.Clone(more), clone(0)), append(slices.Clone(more), clone(0), commit())} {
		p := newPlainForest(512)
		for _, op := range ops {
			p.do(op)
		}
		for _, first := range "abdfjlmnprtvxyz" {
			for _, second := range "bhknvxACDFKQST" {
				q := p.copied()
				row := append(slices.Clone(ops), put(0, string(first), "n"), del(0, string(first)), del(0, string(second)), put(0, string(second), "m"), del(0, "l"), del(0, "n"))
				for _, op := range row[len(ops):] {
					q.do(op)
				}
				wantLikeModel(t, "split and merge", 512, row, q, true)
			}
		}
	}
}

// plainMaps is what promise 6 holds a forest against.
type plainMaps struct {
	trees map[int64]map[string]string
	next  int64
}

func (p *plainMaps) known(op impl.TreeOp) (impl.TreeAns, bool) {
	tree, live := p.trees[op.Tree]
	val, there := tree[op.Key]
	keyed := op.Kind == impl.OpPut || op.Kind == impl.OpDelete || op.Kind == impl.OpGet
	switch {
	case op.Kind < 1 || op.Kind > 6:
		return impl.TreeAns{Code: impl.ErrForm}, true
	case op.Kind != impl.OpCommit && !live:
		return impl.TreeAns{Code: impl.ErrNoTree}, true
	case keyed && len(op.Key) > 12 || op.Kind == impl.OpPut && len(op.Val) > 10:
		return impl.TreeAns{Code: impl.ErrLimit}, true
	case (op.Kind == impl.OpGet || op.Kind == impl.OpDelete) && !there:
		return impl.TreeAns{Code: impl.ErrNotFound}, true
	case op.Kind == impl.OpPut && there:
		return impl.TreeAns{Value: 1}, true
	case op.Kind == impl.OpPut:
		return impl.TreeAns{}, true
	case op.Kind == impl.OpClone && len(p.trees) == 16:
		return impl.TreeAns{Code: impl.ErrLimit}, true
	case op.Kind == impl.OpClone:
		return impl.TreeAns{Value: p.next}, true
	case op.Kind == impl.OpDrop && len(p.trees) == 1:
		return impl.TreeAns{Code: impl.ErrLast}, true
	}
	return impl.TreeAns{Val: val}, op.Kind == impl.OpGet || op.Kind == impl.OpDelete
}

func (p *plainMaps) change(op impl.TreeOp) {
	switch op.Kind {
	case impl.OpPut:
		p.trees[op.Tree][op.Key] = op.Val
	case impl.OpDelete:
		delete(p.trees[op.Tree], op.Key)
	case impl.OpClone:
		p.trees[p.next] = maps.Clone(p.trees[op.Tree])
		p.next++
	case impl.OpDrop:
		delete(p.trees, op.Tree)
	}
}

// wantLikeMaps looks at promise 6 for one row: every answer, and at its end every tree.
func wantLikeMaps(t *testing.T, row row, mayLackSpace bool) {
	t.Helper()
	p := &plainMaps{trees: map[int64]map[string]string{0: {}}, next: 1}
	for i, got := range mustRun(t, row.blocks, row.ops) {
		op := row.ops[i]
		changing := op.Kind == impl.OpPut || op.Kind == impl.OpDelete || op.Kind == impl.OpCommit
		if mayLackSpace && changing && got == (impl.TreeAns{Code: impl.ErrNoSpace}) {
			continue
		}
		if want, known := p.known(op); known && got != want || got.Code != impl.OK && !known {
			t.Fatalf("%s, operation %d, %+v: answer %+v, want %+v", row.name, i, op, got, want)
		}
		if got.Code == impl.OK {
			p.change(op)
		}
	}
	for tree, want := range p.trees {
		items := mustScan(t, row.blocks, row.ops, tree)
		wantKeys := slices.Sorted(maps.Keys(want))
		if len(items) != len(wantKeys) {
			t.Fatalf("%s: tree %d has %d items, want %d", row.name, tree, len(items), len(wantKeys))
		}
		for i, key := range wantKeys {
			if items[i] != (impl.Item{Key: key, Val: want[key]}) {
				t.Fatalf("%s: item %d of tree %d is %v, want %q: %q", row.name, i, tree, items[i], key, want[key])
			}
		}
	}
	if _, code := impl.TreeScan(row.blocks, row.ops, p.next, "", 1); code != impl.ErrNoTree {
		t.Fatalf("%s: tree %d was never made, code %d", row.name, p.next, code)
	}
}

func TestTreesAgainstMaps(t *testing.T) {
	for _, row := range someRows(66, 2000) {
		if row.blocks == 512 {
			row.ops = row.ops[:400]
		}
		wantLikeMaps(t, row, row.blocks < 512)
	}
	r := rand.New(rand.NewSource(66))
	full := row{"2000 operations", 512, randomOps(r, 2000, 15, habit{puts: 10, deletes: 9, gets: 4, clones: 2, drops: 2, commits: 1, wrong: 1})}
	wantLikeMaps(t, full, false)
}

func wantAnswers(t *testing.T, what string, got []impl.TreeAns, want ...impl.TreeAns) {
	t.Helper()
	if !slices.Equal(got, want) {
		t.Errorf("%s: answers\n%v\nwant\n%v", what, got, want)
	}
}

func refused(code int64) impl.TreeAns {
	return impl.TreeAns{Code: code}
}

func TestKeysAndValuesAtTheirLengths(t *testing.T) {
	key, val := strings.Repeat("k", 12), strings.Repeat("v", 10)
	ops := []impl.TreeOp{
		put(0, "", ""), get(0, ""), put(0, "", val), get(0, ""), del(0, ""), get(0, ""), del(0, ""),
		put(0, key, val), get(0, key), put(0, key+"k", val), put(0, key, val+"v"), put(0, key+"k", val+"v"),
		get(0, key+"k"), del(0, key+"k"), get(0, key), del(0, key),
		put(0, "\x00", "\xff"), put(0, "\xff", "\x00"), get(0, "\x00"), get(0, "\xff"), get(0, ""),
	}
	wantAnswers(t, "lengths", mustRun(t, 64, ops),
		impl.TreeAns{}, impl.TreeAns{}, impl.TreeAns{Value: 1}, impl.TreeAns{Val: val}, impl.TreeAns{Val: val}, refused(impl.ErrNotFound), refused(impl.ErrNotFound),
		impl.TreeAns{}, impl.TreeAns{Val: val}, refused(impl.ErrLimit), refused(impl.ErrLimit), refused(impl.ErrLimit),
		refused(impl.ErrLimit), refused(impl.ErrLimit), impl.TreeAns{Val: val}, impl.TreeAns{Val: val},
		impl.TreeAns{}, impl.TreeAns{}, impl.TreeAns{Val: "\xff"}, impl.TreeAns{Val: "\x00"}, refused(impl.ErrNotFound))
	items := mustScan(t, 64, ops, 0)
	if !slices.Equal(items, []impl.Item{{Key: "\x00", Val: "\xff"}, {Key: "\xff", Val: "\x00"}}) {
		t.Errorf("items %q", items)
	}
}

// The empty key goes ahead of all, and draws the first keys of the inner nodes with it.
func TestEmptyKeyInDeepTree(t *testing.T) {
	ops := puts(0, "abcdefghijklmnopqrstuvwxyz")
	ops = append(ops, put(0, "", "e"), get(0, ""), put(0, "a", "A"), get(0, "a"), del(0, ""), get(0, ""), get(0, "a"))
	wantLikeMaps(t, row{"empty key", 64, ops}, false)
}

func TestFieldsThatMeanNothing(t *testing.T) {
	long := strings.Repeat("x", 99)
	ops := []impl.TreeOp{
		{Kind: impl.OpClone, Key: long, Val: long},
		{Kind: impl.OpDrop, Key: long, Val: long},
		{Kind: impl.OpCommit, Tree: math.MinInt64, Key: long, Val: long},
		{Kind: impl.OpPut, Tree: 1, Key: "k", Val: "v"},
		{Kind: impl.OpGet, Tree: 1, Key: "k", Val: long},
		{Kind: impl.OpDelete, Tree: 1, Key: "k", Val: long},
	}
	wantAnswers(t, "fields", mustRun(t, 8, ops), impl.TreeAns{Value: 1}, impl.TreeAns{}, impl.TreeAns{Value: 1}, impl.TreeAns{}, impl.TreeAns{Val: "v"}, impl.TreeAns{Val: "v"})
}

func TestOrderOfOperationErrors(t *testing.T) {
	long := strings.Repeat("x", 13)
	for _, kind := range []int64{math.MinInt64, -1, 0, 7, math.MaxInt64} {
		wantAnswers(t, "kind ahead of tree", mustRun(t, 8, []impl.TreeOp{{Kind: kind, Tree: 5, Key: long, Val: long}, {Kind: kind}}), refused(impl.ErrForm), refused(impl.ErrForm))
	}
	for _, kind := range []int64{impl.OpPut, impl.OpDelete, impl.OpClone, impl.OpDrop, impl.OpGet} {
		for _, tree := range []int64{math.MinInt64, -1, 1, 65535, math.MaxInt64} {
			wantAnswers(t, "tree ahead of lengths", mustRun(t, 8, []impl.TreeOp{{Kind: kind, Tree: tree, Key: long, Val: long}}), refused(impl.ErrNoTree))
		}
	}
	full := []impl.TreeOp{put(0, "a", "1"), commit(), put(0, "b", "2"), clone(0), put(0, "c", "3"), put(1, "d", "4")}
	full = append(full, put(0, long, ""), put(0, "a", long), del(0, long), del(0, "zz"), get(0, long), put(9, "", ""))
	answers := mustRun(t, 8, full)
	wantAnswers(t, "lengths and absence ahead of space", answers[6:], refused(impl.ErrLimit), refused(impl.ErrLimit), refused(impl.ErrLimit), refused(impl.ErrNotFound), refused(impl.ErrLimit), refused(impl.ErrNoTree))
}

func TestPutOfKeyThatIsThereSplits(t *testing.T) {
	ops := append(puts(0, "abcde"), put(0, "c", "new"))
	wantAnswers(t, "full root", mustRun(t, 64, ops)[5:], impl.TreeAns{Value: 1})
	wantViews(t, "full root", mustShape(t, 64, ops, 0),
		impl.NodeView{Block: 6, Kind: 2, Entries: 2, Count: 1},
		impl.NodeView{Block: 4, Depth: 1, Kind: 1, Entries: 3, Count: 1},
		impl.NodeView{Block: 5, Depth: 1, Kind: 1, Entries: 2, Count: 1})
	ops = append(ops, put(0, "f", "6"), put(0, "g", "7"), put(0, "h", "8"), put(0, "h", "9"))
	wantAnswers(t, "full child", mustRun(t, 64, ops)[9:], impl.TreeAns{Value: 1})
	wantViews(t, "full child", mustShape(t, 64, ops, 0),
		impl.NodeView{Block: 6, Kind: 2, Entries: 3, Count: 1},
		impl.NodeView{Block: 4, Depth: 1, Kind: 1, Entries: 3, Count: 1},
		impl.NodeView{Block: 5, Depth: 1, Kind: 1, Entries: 3, Count: 1},
		impl.NodeView{Block: 7, Depth: 1, Kind: 1, Entries: 2, Count: 1})
	wantLikeMaps(t, row{"splits", 64, ops}, false)
}

func wantViews(t *testing.T, what string, got []impl.NodeView, want ...impl.NodeView) {
	t.Helper()
	if !slices.Equal(got, want) {
		t.Errorf("%s: nodes\n%v\nwant\n%v", what, got, want)
	}
}

func TestNumberOfTrees(t *testing.T) {
	ops := []impl.TreeOp{drop(0)}
	want := []impl.TreeAns{refused(impl.ErrLast)}
	for tree := int64(1); tree <= 15; tree++ {
		ops = append(ops, clone(tree-1))
		want = append(want, impl.TreeAns{Value: tree})
	}
	ops = append(ops, clone(0), clone(99), drop(7), drop(7), clone(7), clone(3), clone(16))
	want = append(want, refused(impl.ErrLimit), refused(impl.ErrNoTree), impl.TreeAns{}, refused(impl.ErrNoTree), refused(impl.ErrNoTree), impl.TreeAns{Value: 16}, refused(impl.ErrLimit))
	wantAnswers(t, "trees", mustRun(t, 8, ops), want...)
	cur, _ := mustCounts(t, 8, ops)
	if !slices.Equal(cur, countList(16, 0, 0, 0, 0, 0)) {
		t.Errorf("16 trees with one root: counts %v", cur)
	}
	for tree := int64(0); tree <= 16; tree++ {
		ops = append(ops, drop(tree))
	}
	answers := mustRun(t, 8, ops)
	if answers[len(answers)-1] != refused(impl.ErrLast) {
		t.Errorf("the last tree: %v", answers[len(answers)-1])
	}
}

// forestCalls are the four calls; each tells its code and whether all else was empty.
func forestCalls() map[string]func(blocks int64, ops []impl.TreeOp, tree int64) (int64, bool) {
	return map[string]func(blocks int64, ops []impl.TreeOp, tree int64) (int64, bool){
		"TreeRun": func(blocks int64, ops []impl.TreeOp, tree int64) (int64, bool) {
			answers, code := impl.TreeRun(blocks, ops)
			return code, len(answers) == 0
		},
		"TreeScan": func(blocks int64, ops []impl.TreeOp, tree int64) (int64, bool) {
			items, code := impl.TreeScan(blocks, ops, tree, "", 400)
			return code, len(items) == 0
		},
		"TreeCounts": func(blocks int64, ops []impl.TreeOp, tree int64) (int64, bool) {
			cur, com, code := impl.TreeCounts(blocks, ops)
			return code, len(cur) == 0 && len(com) == 0
		},
		"TreeShape": func(blocks int64, ops []impl.TreeOp, tree int64) (int64, bool) {
			views, code := impl.TreeShape(blocks, ops, tree)
			return code, len(views) == 0
		},
	}
}

func TestErrorsOfForestCalls(t *testing.T) {
	many := make([]impl.TreeOp, 2001)
	for i := range many {
		many[i] = put(0, "a", "1")
	}
	for name, call := range forestCalls() {
		for _, blocks := range []int64{math.MinInt64, -8, 0, 7, 513, math.MaxInt64} {
			code, empty := call(blocks, many, 5)
			wantCode(t, name+": blocks ahead of all", code, impl.ErrDevice)
			if !empty {
				t.Errorf("%s: refused with an answer", name)
			}
		}
		code, empty := call(8, many, 5)
		wantCode(t, name+": too many operations", code, impl.ErrLimit)
		if !empty {
			t.Errorf("%s: refused with an answer", name)
		}
		code, _ = call(8, many[:2000], 0)
		wantCode(t, name+": just as many as may be", code, impl.OK)
		code, _ = call(512, nil, 0)
		wantCode(t, name+": none", code, impl.OK)
	}
	for _, tree := range []int64{math.MinInt64, -1, 1, 2, 65535, math.MaxInt64} {
		for _, name := range []string{"TreeScan", "TreeShape"} {
			code, empty := forestCalls()[name](8, []impl.TreeOp{clone(0), drop(1)}, tree)
			wantCode(t, name+": no such tree", code, impl.ErrNoTree)
			if !empty {
				t.Errorf("%s: refused with an answer", name)
			}
		}
	}
}

func TestFreshForest(t *testing.T) {
	for _, blocks := range []int64{8, 9, 100, 512} {
		cur, com := mustCounts(t, blocks, nil)
		wantCur, wantCom := make([]int64, blocks), make([]int64, blocks)
		wantCur[2], wantCom[2], wantCom[3] = 1, 1, 1
		if !slices.Equal(cur, wantCur) || !slices.Equal(com, wantCom) {
			t.Errorf("%d blocks: counts %v, %v", blocks, cur, com)
		}
		wantViews(t, "fresh", mustShape(t, blocks, nil, 0), impl.NodeView{Block: 2, Kind: 1, Count: 1})
		if items := mustScan(t, blocks, nil, 0); len(items) != 0 {
			t.Errorf("a fresh tree has %v", items)
		}
	}
}

func numberKey(i int) string {
	return string([]byte{byte(i >> 8), byte(i)})
}

func TestScanAtItsLimits(t *testing.T) {
	ops := []impl.TreeOp{}
	for i := range 410 {
		ops = append(ops, put(0, numberKey(i), numberKey(i)))
	}
	for _, limit := range []int64{math.MinInt64, -1, 0, 1, 2, 399, 400, 401, 410, math.MaxInt64} {
		for _, from := range []int{0, 1, 7, 9, 10, 11, 200, 409, 410} {
			items, code := impl.TreeScan(512, ops, 0, numberKey(from), limit)
			want := min(max(limit, 0), 400, int64(410-from))
			if code != impl.OK || int64(len(items)) != want {
				t.Fatalf("limit %d from %d: %d items (code %d), want %d", limit, from, len(items), code, want)
			}
			for i, it := range items {
				if it != (impl.Item{Key: numberKey(from + i), Val: numberKey(from + i)}) {
					t.Fatalf("limit %d from %d: item %d is %q", limit, from, i, it)
				}
			}
		}
	}
}

func TestScanBetweenKeys(t *testing.T) {
	ops := puts(0, "bdfhjlnpr")
	for from, want := range map[string]string{"": "bdfhjlnpr", "a": "bdfhjlnpr", "b": "bdfhjlnpr", "b\x00": "dfhjlnpr", "c": "dfhjlnpr", "k": "lnpr", "r": "r", "r\x00": "", "s": "", strings.Repeat("d", 50): "fhjlnpr"} {
		items, code := impl.TreeScan(64, ops, 0, from, 99)
		got := ""
		for _, it := range items {
			got += it.Key
		}
		if code != impl.OK || got != want {
			t.Errorf("from %q: %q (code %d), want %q", from, got, code, want)
		}
	}
}

// wantSameForest looks at all that can be seen of two forests.
func wantSameForest(t *testing.T, name string, blocks int64, a, b []impl.TreeOp, trees []int64) {
	t.Helper()
	curA, comA := mustCounts(t, blocks, a)
	curB, comB := mustCounts(t, blocks, b)
	if !slices.Equal(curA, curB) || !slices.Equal(comA, comB) {
		t.Fatalf("%s: counts\n%v\n%v\nwant\n%v\n%v", name, curA, comA, curB, comB)
	}
	for _, tree := range trees {
		if !slices.Equal(mustShape(t, blocks, a, tree), mustShape(t, blocks, b, tree)) {
			t.Fatalf("%s: tree %d has another shape", name, tree)
		}
		if !slices.Equal(mustScan(t, blocks, a, tree), mustScan(t, blocks, b, tree)) {
			t.Fatalf("%s: tree %d has other items", name, tree)
		}
	}
}

// A row without its refused operations must lead to the same forest, at every refusal.
func TestRefusedOperationsLeaveAll(t *testing.T) {
	for _, row := range someRows(16, 160) {
		answers := mustRun(t, row.blocks, row.ops)
		kept := []impl.TreeOp{}
		refusals := 0
		for i, op := range row.ops {
			if answers[i].Code == impl.OK {
				kept = append(kept, op)
				continue
			}
			refusals++
			if answers[i].Value != 0 || answers[i].Val != "" {
				t.Fatalf("%s: refused with an answer: %+v", row.name, answers[i])
			}
			wantSameForest(t, row.name, row.blocks, row.ops[:i+1], kept, liveTrees(row.ops[:i+1], answers))
		}
		if row.blocks <= 24 && refusals < 20 {
			t.Errorf("%s: only %d refusals, the row proves little", row.name, refusals)
		}
	}
}

// A change of a clone takes a block for each node on its way: with few of them free it stops at each of these nodes in turn, or only at the reserve.
func TestWantOfSpaceInTheMidst(t *testing.T) {
	base := puts(0, "abcdefghijklmnopqrstuvwxyz")
	for free := 0; free <= 9; free++ {
		blocks := spaceFor(t, base, free)
		for _, op := range []impl.TreeOp{put(0, "mm", "x"), put(0, "a", "x"), put(0, "zz", "x"), del(0, "m"), del(0, "a"), del(0, "z")} {
			ops := append(slices.Clone(base), clone(0), op)
			answers := mustRun(t, blocks, ops)
			p := newPlainForest(blocks)
			for i := range ops {
				if want := p.do(ops[i]); want != answers[i] {
					t.Fatalf("%d blocks: answer %d is %+v, want %+v", blocks, i, answers[i], want)
				}
			}
			wantLikeModel(t, "midst", blocks, ops, p, true)
		}
	}
}

// spaceFor is the number of blocks of which so many are free above the reserve after the operations.
func spaceFor(t *testing.T, ops []impl.TreeOp, above int) int64 {
	t.Helper()
	for blocks := int64(8); blocks <= 512; blocks++ {
		answers := mustRun(t, blocks, ops)
		if slices.ContainsFunc(answers, func(a impl.TreeAns) bool { return a.Code != impl.OK }) {
			continue
		}
		cur, com := mustCounts(t, blocks, ops)
		if int64(len(plainFree(cur, com))) == 2*impl.Reserve(blocks)+int64(above) {
			return blocks
		}
	}
	t.Fatalf("no device has %d blocks free above its reserve", above)
	return 0
}

func TestReserveIsKept(t *testing.T) {
	base := puts(0, "abcde")
	for above := 1; above <= 3; above++ {
		blocks := spaceFor(t, base, above)
		answers := mustRun(t, blocks, append(slices.Clone(base), put(0, "f", "6"), del(0, "a"), clone(0), put(0, "b", "x"), commit()))
		want := int64(impl.ErrNoSpace)
		if above >= 2 {
			want = impl.OK
		}
		wantCode(t, "the split takes two blocks", answers[5].Code, want)
		wantCode(t, "a delete in place takes none", answers[6].Code, impl.OK)
		wantCode(t, "a clone takes none", answers[7].Code, impl.OK)
		wantCode(t, "a commit is never refused", answers[9].Code, impl.OK)
	}
}

// inDegrees tells the counts from the shapes of all live trees: each node's children are counted once.
func inDegrees(t *testing.T, blocks int64, ops []impl.TreeOp, trees []int64) []int64 {
	t.Helper()
	out := make([]int64, blocks)
	children := map[int64][]int64{}
	for _, tree := range trees {
		views := mustShape(t, blocks, ops, tree)
		out[views[0].Block]++
		path := []int64{}
		below := map[int64][]int64{}
		for _, v := range views {
			path = append(path[:v.Depth], v.Block)
			if v.Depth > 0 {
				parent := path[v.Depth-1]
				below[parent] = append(below[parent], v.Block)
			}
		}
		for parent, list := range below {
			if known, seen := children[parent]; seen && !slices.Equal(known, list) {
				t.Fatalf("block %d has children %v and %v", parent, known, list)
			}
			children[parent] = list
		}
	}
	for _, list := range children {
		for _, b := range list {
			out[b]++
		}
	}
	return out
}

func wantTreeForm(t *testing.T, name string, views []impl.NodeView, cur []int64) {
	t.Helper()
	depth := int64(-1)
	for i, v := range views {
		if v.Count != cur[v.Block] {
			t.Fatalf("%s: block %d is told with count %d, it has %d", name, v.Block, v.Count, cur[v.Block])
		}
		least := int64(2)
		if i == 0 && v.Kind == impl.KindLeaf {
			least = 0
		}
		if v.Entries < least || v.Entries > 5 {
			t.Fatalf("%s: block %d has %d entries", name, v.Block, v.Entries)
		}
		if v.Kind == impl.KindInner {
			below := int64(0)
			for _, w := range views[i+1:] {
				if w.Depth <= v.Depth {
					break
				}
				if w.Depth == v.Depth+1 {
					below++
				}
			}
			if below != v.Entries {
				t.Fatalf("%s: block %d has %d entries and %d children", name, v.Block, v.Entries, below)
			}
			continue
		}
		if depth == -1 {
			depth = v.Depth
		}
		if v.Depth != depth {
			t.Fatalf("%s: leaves at depths %d and %d", name, depth, v.Depth)
		}
	}
}

// wantPromises7And8 looks at what promises 7 and 8 say of one moment.
func wantPromises7And8(t *testing.T, name string, blocks int64, ops []impl.TreeOp, trees []int64) {
	t.Helper()
	cur, com := mustCounts(t, blocks, ops)
	for _, tree := range trees {
		wantTreeForm(t, name, mustShape(t, blocks, ops, tree), cur)
	}
	if want := inDegrees(t, blocks, ops, trees); !slices.Equal(cur, want) {
		t.Fatalf("%s, %d operations: counts\n%v\nnames\n%v", name, len(ops), cur, want)
	}
	classes, code := impl.Classify(cur, com)
	wantCode(t, name+": the counts are count lists", code, impl.OK)
	for b, class := range classes {
		if class != plainClass(b, cur[b], com[b]) {
			t.Fatalf("%s: block %d has class %d", name, b, class)
		}
	}
}

func TestFormAndCountsAfterEachOperation(t *testing.T) {
	for _, row := range someRows(7, 150) {
		answers := mustRun(t, row.blocks, row.ops)
		for i := range row.ops {
			trees := liveTrees(row.ops[:i+1], answers)
			wantPromises7And8(t, row.name, row.blocks, row.ops[:i+1], trees)
		}
	}
}

// glimpse is what can be seen of the nodes of all live trees.
func glimpse(t *testing.T, blocks int64, ops []impl.TreeOp, trees []int64) map[int64]impl.NodeView {
	t.Helper()
	out := map[int64]impl.NodeView{}
	for _, tree := range trees {
		for _, v := range mustShape(t, blocks, ops, tree) {
			out[v.Block] = impl.NodeView{Block: v.Block, Kind: v.Kind, Entries: v.Entries}
		}
	}
	return out
}

// Between two commits a committed block keeps its node or loses it, and gets no other.
func TestCommittedBlocksGetNoOtherNode(t *testing.T) {
	for _, row := range someRows(8, 150) {
		answers := mustRun(t, row.blocks, row.ops)
		before := glimpse(t, row.blocks, nil, []int64{0})
		_, com := mustCounts(t, row.blocks, nil)
		for i, op := range row.ops {
			ops := row.ops[:i+1]
			now := glimpse(t, row.blocks, ops, liveTrees(ops, answers))
			_, comNow := mustCounts(t, row.blocks, ops)
			if op.Kind == impl.OpCommit && answers[i].Code == impl.OK {
				before, com = now, comNow
				continue
			}
			if !slices.Equal(comNow, com) {
				t.Fatalf("%s, operation %d, %+v: the committed counts changed", row.name, i, op)
			}
			for block, v := range now {
				if com[block] > 0 && v != before[block] {
					t.Fatalf("%s, operation %d, %+v: the committed block %d became %v from %v", row.name, i, op, block, v, before[block])
				}
			}
			before = now
		}
	}
}

func TestCommitSettlesTheCounts(t *testing.T) {
	for _, row := range someRows(18, 120) {
		answers := mustRun(t, row.blocks, row.ops)
		for i, op := range row.ops {
			if op.Kind == impl.OpCommit {
				wantCommit(t, row, i, answers[i])
			}
		}
	}
}

func wantCommit(t *testing.T, row row, i int, answer impl.TreeAns) {
	t.Helper()
	cur, com := mustCounts(t, row.blocks, row.ops[:i])
	curAfter, comAfter := mustCounts(t, row.blocks, row.ops[:i+1])
	plan, _, code := plainPlan(cur, com)
	wantCode(t, row.name+": the commit's code is the plan's", answer.Code, code)
	if !slices.Equal(cur, curAfter) {
		t.Fatalf("%s: commit %d changed the current counts", row.name, i)
	}
	if code != impl.OK {
		return
	}
	want := slices.Clone(cur)
	written := int64(len(plan))
	for _, b := range plan {
		want[b] = 1
	}
	for b := range cur {
		if cur[b] > 0 && com[b] == 0 {
			written++
		}
		if b >= 2 && cur[b] == 0 && com[b] > 0 && (comAfter[b] != 0 || curAfter[b] != 0) {
			t.Fatalf("%s: block %d was pinned and is not free after commit %d", row.name, b, i)
		}
	}
	if !slices.Equal(comAfter, want) || answer != (impl.TreeAns{Value: written}) {
		t.Fatalf("%s: commit %d leaves %v and answers %+v, want %v and %d", row.name, i, comAfter, answer, want, written)
	}
}

// Commits with nothing between them move the table to and fro between two places.
func TestCommitsOneAfterTheOther(t *testing.T) {
	ops := []impl.TreeOp{}
	for i := range 12 {
		ops = append(ops, commit())
		_, com := mustCounts(t, 8, ops)
		want := countList(1, 0, 1, 0, 0, 0)
		if i%2 == 1 {
			want = countList(1, 1, 0, 0, 0, 0)
		}
		if !slices.Equal(com, want) {
			t.Errorf("after %d commits: %v, want %v", i+1, com, want)
		}
	}
	for _, answer := range mustRun(t, 8, ops) {
		if answer != (impl.TreeAns{Value: 1}) {
			t.Errorf("a commit of a table alone answers %+v", answer)
		}
	}
}

func wantCounts(t *testing.T, what string, ops []impl.TreeOp, pairs ...int64) {
	t.Helper()
	cur, _ := mustCounts(t, 64, ops)
	want := make([]int64, 64)
	for i := 0; i < len(pairs); i += 2 {
		want[pairs[i]] = pairs[i+1]
	}
	if !slices.Equal(cur, want) {
		t.Errorf("%s: counts %v, want %v", what, cur, want)
	}
}

// After six puts and one delete block 6 is the root of the leaves 4 (b, c) and 5 (d, e); one key more makes 5 spare.
func twoLeaves() []impl.TreeOp {
	return append(puts(0, "abcdef"), dels(0, "af")...)
}

func TestMergeWithNextSibling(t *testing.T) {
	own := append(twoLeaves(), del(0, "b"))
	wantCounts(t, "a sibling of its own dies", own, 4, 1)
	wantViews(t, "own", mustShape(t, 64, own, 0), impl.NodeView{Block: 4, Kind: 1, Entries: 3, Count: 1})
	shared := append(twoLeaves(), clone(0), del(1, "b"))
	// 7 is the copy of the root, 8 of the leaf 4; 5 is let go and lives on; 7 dies as 8 becomes the root.
	wantCounts(t, "a shared sibling lives on", shared, 4, 1, 5, 1, 6, 1, 8, 1)
	wantLikeMaps(t, row{"shared", 64, shared}, false)
	committed := append(twoLeaves(), commit(), del(0, "b"))
	// The table lies in 7, and 2 and 3 are free again: 2 is the copy of the root and 3 of the leaf 4.
	wantCounts(t, "a committed sibling is pinned", committed, 3, 1)
	wantLikeMaps(t, row{"committed", 64, committed}, false)
}

func TestMergeWithSiblingBefore(t *testing.T) {
	own := append(twoLeaves(), del(0, "e"))
	wantCounts(t, "a sibling of its own dies", own, 5, 1)
	shared := append(twoLeaves(), clone(0), del(1, "e"))
	wantCounts(t, "a shared sibling lives on", shared, 4, 1, 5, 1, 6, 1, 8, 1)
	wantLikeMaps(t, row{"shared", 64, shared}, false)
}

func TestBorrowFromSibling(t *testing.T) {
	next := append(puts(0, "abcdef"), dels(0, "ab")...)
	wantCounts(t, "own next", next, 4, 1, 5, 1, 6, 1)
	before := append(puts(0, "abcdef"), dels(0, "ef")...)
	wantCounts(t, "own before", before, 4, 1, 5, 1, 6, 1)
	// 7 and 8 are the copies of the root and of the leaf, 9 that of the sibling, which must be shadowed to give.
	sharedNext := append(puts(0, "abcdef"), del(0, "a"), clone(0), del(1, "b"))
	wantCounts(t, "shared next", sharedNext, 4, 1, 5, 1, 6, 1, 7, 1, 8, 1, 9, 1)
	sharedBefore := append(puts(0, "abcdef"), del(0, "f"), clone(0), del(1, "e"))
	wantCounts(t, "shared before", sharedBefore, 4, 1, 5, 1, 6, 1, 7, 1, 8, 1, 9, 1)
	for _, ops := range [][]impl.TreeOp{next, before, sharedNext, sharedBefore} {
		wantLikeMaps(t, row{"borrow", 64, ops}, false)
	}
}

// Inner siblings: when a shared one is merged, its children are named by the merged node too.
func TestMergeOfInnerSiblings(t *testing.T) {
	letters := "abcdefghijklmnopqrstuvwxyzABCDEFGHIJKLMNOPQRSTUVWXYZ"
	for _, start := range []string{letters[:26], letters} {
		for seed := range int64(6) {
			r := rand.New(rand.NewSource(seed))
			ops := append(puts(0, start), clone(0))
			order := []byte(start)
			r.Shuffle(len(order), func(i, j int) { order[i], order[j] = order[j], order[i] })
			if seed == 0 {
				slices.Sort(order)
			}
			if seed == 1 {
				slices.Sort(order)
				slices.Reverse(order)
			}
			for _, key := range order {
				ops = append(ops, del(1, string(key)))
				wantPromises7And8(t, "inner merges", 512, ops, []int64{0, 1})
			}
			wantSameForest(t, "the source is as before", 512, append(slices.Clone(ops), drop(1)), puts(0, start), []int64{0})
		}
	}
}

// Two clones are changed on both sides and dropped in either order; what is left must be whole, and all else free.
func TestDropInEitherOrder(t *testing.T) {
	r := rand.New(rand.NewSource(77))
	for range 20 {
		base := append(puts(0, "abcdefghijklmnopqrst"), clone(0), clone(0))
		for range 30 {
			key := string(rune('a' + r.Intn(24)))
			tree := r.Int63n(3)
			if r.Intn(2) == 0 {
				base = append(base, put(tree, key, "n"))
			} else {
				base = append(base, del(tree, key))
			}
			if r.Intn(12) == 0 {
				base = append(base, commit())
			}
		}
		for _, order := range [][]int64{{0, 1, 2}, {0, 2, 1}, {1, 0, 2}, {1, 2, 0}, {2, 0, 1}, {2, 1, 0}} {
			wantDrops(t, base, order)
		}
	}
}

func wantDrops(t *testing.T, base []impl.TreeOp, order []int64) {
	t.Helper()
	ops := slices.Clone(base)
	for i, tree := range order[:2] {
		before, _ := mustCounts(t, 512, ops)
		ops = append(ops, drop(tree))
		after, _ := mustCounts(t, 512, ops)
		died := int64(0)
		for b := range before {
			if before[b] > 0 && after[b] == 0 {
				died++
			}
		}
		if answer := mustRun(t, 512, ops)[len(ops)-1]; answer != (impl.TreeAns{Value: died}) {
			t.Fatalf("the drop of %d answers %+v, %d blocks died", tree, answer, died)
		}
		wantPromises7And8(t, "drops", 512, ops, order[i+1:])
	}
	last := order[2]
	if !slices.Equal(mustScan(t, 512, base, last), mustScan(t, 512, ops, last)) {
		t.Fatalf("tree %d changed as others were dropped", last)
	}
	live := 0
	cur, _ := mustCounts(t, 512, ops)
	for _, count := range cur {
		if count > 1 {
			t.Fatalf("one tree is left, and a block has the count %d", count)
		}
		live += int(count)
	}
	if live != len(mustShape(t, 512, ops, last)) {
		t.Fatalf("one tree of %d nodes is left, and %d blocks are live", len(mustShape(t, 512, ops, last)), live)
	}
}

func TestForestSharesNothing(t *testing.T) {
	ops := append(puts(0, "abcdefgh"), clone(0), put(1, "a", "x"), commit(), del(0, "b"))
	before := slices.Clone(ops)
	cur, com := mustCounts(t, 64, ops)
	curBefore, comBefore := slices.Clone(cur), slices.Clone(com)
	turnNumbers(cur)
	if !slices.Equal(com, comBefore) {
		t.Errorf("the two lists of counts share memory")
	}
	turnNumbers(com)
	answers := mustRun(t, 64, ops)
	clear(answers)
	items := mustScan(t, 64, ops, 0)
	clear(items[:cap(items)])
	views := mustShape(t, 64, ops, 0)
	clear(views[:cap(views)])
	if !slices.Equal(ops, before) {
		t.Errorf("the operations were changed")
	}
	curAgain, comAgain := mustCounts(t, 64, ops)
	if !slices.Equal(curAgain, curBefore) || !slices.Equal(comAgain, comBefore) {
		t.Errorf("a second call answers something else")
	}
	fresh, freshCom := mustCounts(t, 64, nil)
	turnNumbers(fresh)
	if freshCom[2] != 1 || freshCom[3] != 1 {
		t.Errorf("the two lists of a fresh forest share memory")
	}
	settled, settledCom := mustCounts(t, 64, []impl.TreeOp{commit()})
	turnNumbers(settled)
	if settledCom[2] != 1 || settledCom[4] != 1 {
		t.Errorf("the two lists share memory after a commit")
	}
}
