package impl

import (
	"slices"
	"testing"
)

// What stands here can't be seen by the four calls of the chapter: bounds beyond MaxOps operations, keys of inner nodes, lists that only a commit to a device tells.

func sameForest(a, b *forest) bool {
	return slices.Equal(a.roots, b.roots) && a.next == b.next && a.generation == b.generation &&
		slices.Equal(a.cur, b.cur) && slices.Equal(a.com, b.com) && slices.Equal(a.table, b.table)
}

func TestCommitAtMaxGeneration(t *testing.T) {
	f := freshForest(8)
	f.generation = MaxGeneration - 1
	if got := f.do(TreeOp{Kind: OpCommit}); got != (TreeAns{Value: 1}) || f.generation != MaxGeneration {
		t.Fatalf("the last commit answers %+v and leaves generation %d", got, f.generation)
	}
	before := freshForest(8)
	before.com, before.table, before.generation = slices.Clone(f.com), []int64{4}, MaxGeneration
	if got := f.do(TreeOp{Kind: OpCommit}); got != (TreeAns{Code: ErrLimit}) {
		t.Errorf("a commit at MaxGeneration answers %+v", got)
	}
	if !sameForest(f, before) {
		t.Errorf("a refused commit changed the forest: %+v", f)
	}
}

func TestGenerationComesAheadOfSpace(t *testing.T) {
	f := freshForest(8)
	f.generation = MaxGeneration
	for block := range f.cur[2:] {
		f.com[block+2] = 1
	}
	if got := f.do(TreeOp{Kind: OpCommit}); got != (TreeAns{Code: ErrLimit}) {
		t.Errorf("without a free block: %+v", got)
	}
	f.generation--
	if got := f.do(TreeOp{Kind: OpCommit}); got != (TreeAns{Code: ErrNoSpace}) {
		t.Errorf("without a free block, one generation before: %+v", got)
	}
}

func TestCloneAtMaxTreeID(t *testing.T) {
	f := freshForest(8)
	f.next = MaxTreeID - 1
	if got := f.do(TreeOp{Kind: OpClone}); got != (TreeAns{Value: MaxTreeID - 1}) {
		t.Fatalf("the last number: %+v", got)
	}
	for _, tree := range []int64{0, MaxTreeID - 1} {
		if got := f.do(TreeOp{Kind: OpClone, Tree: tree}); got != (TreeAns{Code: ErrLimit}) {
			t.Errorf("beyond the last number: %+v", got)
		}
	}
	if got := f.do(TreeOp{Kind: OpDrop, Tree: MaxTreeID - 1}); got != (TreeAns{}) || f.next != MaxTreeID {
		t.Errorf("the drop answers %+v and leaves the next number %d", got, f.next)
	}
	if got := f.do(TreeOp{Kind: OpClone}); got != (TreeAns{Code: ErrLimit}) {
		t.Errorf("a number is handed out again: %+v", got)
	}
}

// A panic that is no want of blocks must not be taken for one.
func TestAttemptKnowsItsOwnPanic(t *testing.T) {
	defer func() {
		if raised := recover(); raised != "something else" {
			t.Errorf("attempt let %v through", raised)
		}
	}()
	freshForest(8).attempt(func() { panic("something else") })
	t.Errorf("attempt swallowed a panic")
}

func TestFreshForestHasGenerationOne(t *testing.T) {
	f := freshForest(8)
	if f.generation != 1 || f.next != 1 || !slices.Equal(f.table, []int64{3}) || !slices.Equal(f.roots, []Root{{Tree: 0, Block: 2}}) {
		t.Errorf("a fresh forest is %+v", f)
	}
}

// take must stop the change at once: what comes behind it could free blocks again.
func TestWantOfBlocksStopsTheChange(t *testing.T) {
	f := freshForest(8)
	for block := range f.com[4:] {
		f.com[block+4] = 1
	}
	wentOn := false
	code := f.attempt(func() {
		f.take(&Node{Kind: KindLeaf})
		wentOn = true
	})
	if code != ErrNoSpace || wentOn {
		t.Errorf("code %d, went on: %v", code, wentOn)
	}
}

func keyRow(number int) []TreeOp {
	var ops []TreeOp
	for i := range number {
		key := string([]byte{byte('a' + i*7%26), byte('a' + i*11%26)})
		op := TreeOp{Kind: OpPut, Key: key, Tree: int64(i % 3)}
		if i%5 > 2 {
			op.Kind = OpDelete
		}
		if i%100 == 10 {
			op.Kind = OpClone
		}
		ops = append(ops, op)
	}
	return ops
}

// wantKeys looks whether each key below a block lies in the bounds that the entries above it set; an empty bound above is none.
func wantKeys(t *testing.T, f *forest, block int64, least, beyond string) {
	t.Helper()
	n := f.nodes[block]
	for i, e := range n.Entries {
		if e.Key < least || beyond != "" && e.Key >= beyond {
			t.Fatalf("block %d has the key %q, its bounds are %q and %q", block, e.Key, least, beyond)
		}
		if n.Kind != KindInner {
			continue
		}
		end := beyond
		if i+1 < len(n.Entries) {
			end = n.Entries[i+1].Key
		}
		wantKeys(t, f, e.Child, e.Key, end)
	}
}

func TestKeysLieBelowTheirEntries(t *testing.T) {
	f := freshForest(512)
	for i, op := range keyRow(700) {
		if got := f.do(op); got.Code != OK && got.Code != ErrNotFound && got.Code != ErrNoTree {
			t.Fatalf("operation %d: %+v", i, got)
		}
		for _, r := range f.roots {
			wantKeys(t, f, r.Block, "", "")
		}
	}
}

func TestDirtyBlocksRise(t *testing.T) {
	f := freshForest(512)
	for i, op := range keyRow(300) {
		f.do(op)
		if i == 150 {
			f.do(TreeOp{Kind: OpCommit})
		}
		var want []int64
		for block, count := range f.cur {
			if count > 0 && f.com[block] == 0 {
				want = append(want, int64(block))
			}
		}
		if got := f.dirty(); !slices.Equal(got, want) {
			t.Fatalf("operation %d: dirty blocks %v, want %v", i, got, want)
		}
	}
}

// Just the live blocks have nodes, after refusals too.
func TestNodesAreThoseOfLiveBlocks(t *testing.T) {
	for _, blocks := range []int64{8, 20, 40, 512} {
		f := freshForest(blocks)
		for i, op := range keyRow(400) {
			f.do(op)
			if i%40 == 39 {
				f.do(TreeOp{Kind: OpCommit})
			}
			for block, count := range f.cur {
				if (f.nodes[int64(block)] != nil) != (count > 0) {
					t.Fatalf("%d blocks, operation %d: block %d has the count %d and the node %v", blocks, i, block, count, f.nodes[int64(block)])
				}
			}
		}
	}
}
