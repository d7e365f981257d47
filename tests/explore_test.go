package tests

import (
	"bytes"
	"math"
	"math/rand"
	"runtime"
	"slices"
	"testing"
	"time"

	"loop.example/s01595/impl"
)

// plainChecks asks the decoders one after the other.
func plainChecks(disk []byte) []int64 {
	var out []int64
	for b := range blocksIn(disk) {
		var code int64
		raw := rawAt(disk, b)
		if b < 2 {
			_, code = impl.DecodeSuper(raw)
		} else if raw[0] == 3 {
			_, code = impl.DecodeTable(raw)
		} else {
			_, code = impl.DecodeNode(raw)
		}
		out = append(out, code)
	}
	return out
}

func wantChecks(t *testing.T, what string, disk []byte) {
	t.Helper()
	codes, code := impl.CheckBlocks(disk)
	if want := plainChecks(disk); code != impl.OK || !slices.Equal(codes, want) {
		t.Errorf("%s: code %d, codes %v, want %v", what, code, codes, want)
	}
}

// anyBlock is good or spoilt, of any kind, or none at all.
func anyBlock(r *rand.Rand) []byte {
	super := goodSuper()
	block := [][]byte{
		layNode(leaf(item("a", "b"))).bytes,
		layNode(inner(child("a", 2), child("b", 3))).bytes,
		layTable(runs(impl.Run{Start: 2, Len: 9, Count: 1})).bytes,
		laySuper(super).bytes,
		blockOf(0),
		blockOf(3),
	}[r.Intn(6)]
	block = bytes.Clone(block)
	switch r.Intn(3) {
	case 0:
		block[r.Intn(128)] ^= 1 << r.Intn(8)
	case 1:
		block[r.Intn(124)] ^= 1 << r.Intn(8)
		block = reseal(block)
	}
	return block
}

func TestCheckBlocks(t *testing.T) {
	r := rand.New(rand.NewSource(17))
	for _, blocks := range []int64{8, 9, 64, 511, 512} {
		wantChecks(t, "fresh", fresh(t, blocks))
		for range 20 {
			disk := make([]byte, 0, blocks*impl.BlockSize)
			for range blocks {
				disk = append(disk, anyBlock(r)...)
			}
			wantChecks(t, "any blocks", disk)
		}
	}
	wantChecks(t, "two sound slots", oldVolume(t, 32))
}

func TestChecksByPlace(t *testing.T) {
	node, table, super := layNode(leaf()).bytes, layTable(impl.Table{}).bytes, laySuper(goodSuper()).bytes
	spoiltTable := bytes.Clone(table)
	spoiltTable[100] = 1
	disk := slices.Concat(super, node, super, table, node, spoiltTable, reseal(spoiltTable), table, blockOf(0))
	codes, code := impl.CheckBlocks(disk)
	wantCode(t, "CheckBlocks", code, impl.OK)
	want := []int64{impl.OK, impl.ErrForm, impl.ErrForm, impl.OK, impl.OK, impl.ErrSum, impl.ErrForm, impl.OK, impl.ErrSum}
	if !slices.Equal(codes, want) {
		t.Errorf("codes %v, want %v", codes, want)
	}
}

// plainExplore makes each crash one after the other.
func plainExplore(disk []byte, steps []impl.Step, count int64) ([]int64, int64) {
	d, code := impl.DevApply(impl.Device{Blocks: blocksIn(disk), Disk: disk}, steps, count)
	if code != impl.OK {
		return nil, code
	}
	if len(d.Cache) > 8 {
		return nil, impl.ErrLimit
	}
	var out []int64
	for crash := range 1 << len(d.Cache) {
		left, _ := impl.DevCrash(d, []byte{byte(crash)})
		generation := int64(0)
		if v, code := impl.Mount(left.Disk); code == impl.OK {
			generation = v.Generation
		}
		out = append(out, generation)
	}
	return out, impl.OK
}

func wantExplored(t *testing.T, what string, disk []byte, steps []impl.Step, count int64) []int64 {
	t.Helper()
	found, code := impl.Explore(disk, steps, count)
	want, wanted := plainExplore(disk, steps, count)
	if code != wanted || !slices.Equal(found, want) {
		t.Errorf("%s, count %d: code %d, found %v, want code %d, %v", what, count, code, found, wanted, want)
	}
	return found
}

func TestExploreOfCommits(t *testing.T) {
	disk := oldVolume(t, 64)
	for _, ops := range [][]impl.TreeOp{nil, {put(0, "z", "1")}, puts(0, "xyz"), append(puts(1, "xyzw"), drop(0)), {clone(0), drop(1)}} {
		_, steps, _ := impl.VolumeRun(disk, ops)
		for count := range len(steps) + 2 {
			for _, generation := range wantExplored(t, "a commit", disk, steps, int64(count)) {
				if generation != 3 && generation != 4 {
					t.Errorf("after %d steps of %v a crash leaves generation %d", count, ops, generation)
				}
			}
		}
	}
}

// opsOn has no commit among its operations; drops are rare, so that trees share what they hold.
func opsOn(r *rand.Rand, roots []impl.Root, number int) []impl.TreeOp {
	var ops []impl.TreeOp
	for range number {
		tree := roots[r.Intn(len(roots))].Tree
		key := string(rune('a' + r.Intn(26)))
		ops = append(ops, []impl.TreeOp{put(tree, key, "new"), put(tree, key, "newer"), put(tree, key, ""), del(tree, key), del(tree, key), clone(tree), drop(tree), get(tree, key)}[r.Intn(8)])
	}
	return ops
}

// Rows without a commit among them: whatever a crash leaves is the volume from before or the next.
func TestExploreOfOwnVolumes(t *testing.T) {
	r := rand.New(rand.NewSource(18))
	explored := 0
	for _, blocks := range []int64{8, 12, 24, 64} {
		disk := fresh(t, blocks)
		for range 30 {
			before, _ := impl.Mount(disk)
			ops := opsOn(r, before.Roots, 1+r.Intn(8))
			_, steps, _ := impl.VolumeRun(disk, ops)
			for count := range len(steps) + 1 {
				found := wantExplored(t, "an own volume", disk, steps, int64(count))
				explored += len(found)
				for _, generation := range found {
					if generation != before.Generation && generation != before.Generation+1 {
						t.Fatalf("%d blocks, generation %d, %v, after %d steps: found %v", blocks, before.Generation, ops, count, found)
					}
				}
			}
			disk = applied(t, disk, steps)
		}
	}
	if explored < 3000 {
		t.Errorf("only %d crashes were looked at", explored)
	}
}

func TestExploreOfMkfs(t *testing.T) {
	for name, before := range imagesFromBefore(t, 16) {
		steps, _ := impl.MkfsSteps(16)
		for count := int64(-1); count <= 9; count++ {
			wantExplored(t, name, before, steps, count)
		}
	}
}

// waitingWrites spoils and mends blocks of a sound volume, some of them twice, so that the order of survivors counts.
func waitingWrites(disk []byte, number int) []impl.Step {
	blocks := []int64{1, 1, 2, 0, 2, 4, 0, 3, 1}
	var steps []impl.Step
	for i := range number {
		data := bytes.Clone(rawAt(disk, blocks[i%len(blocks)]))
		if i%3 != 1 {
			data = blockOf(byte(i))
		}
		steps = append(steps, impl.Step{Kind: impl.StepWrite, Block: blocks[i%len(blocks)], Data: data})
	}
	return steps
}

func TestExploreAtItsLimits(t *testing.T) {
	disk := oldVolume(t, 32)
	steps := waitingWrites(disk, 9)
	for count := range int64(10) {
		found := wantExplored(t, "waiting writes", disk, steps, count)
		if count <= 8 && len(found) != 1<<count {
			t.Errorf("%d waiting writes: %d numbers", count, len(found))
		}
	}
	full := wantExplored(t, "eight writes", disk, steps, 8)
	if !slices.Contains(full, 0) || !slices.Contains(full, 2) || !slices.Contains(full, 3) {
		t.Errorf("the crashes of eight writes leave too little to tell apart: %v", full)
	}
	found, code := impl.Explore(disk, steps, 9)
	if code != impl.ErrLimit || len(found) != 0 {
		t.Errorf("nine writes: code %d, %d numbers", code, len(found))
	}
	flushed := append(slices.Clone(steps), flushing(), steps[0])
	if found, code := impl.Explore(disk, flushed, 11); code != impl.OK || len(found) != 2 {
		t.Errorf("nine writes that are flushed, and one more: code %d, %v", code, found)
	}
	for _, count := range []int64{-1, math.MinInt64} {
		if found, code := impl.Explore(disk, steps, count); code != impl.OK || !slices.Equal(found, []int64{3}) {
			t.Errorf("count %d: code %d, found %v", count, code, found)
		}
	}
	for _, count := range []int64{4, math.MaxInt64} {
		found, code := impl.Explore(disk, steps[:3], count)
		if want, _ := plainExplore(disk, steps, 3); code != impl.OK || !slices.Equal(found, want) {
			t.Errorf("count %d of three steps: code %d, found %v, want %v", count, code, found, want)
		}
	}
	wantExplored(t, "no steps", disk, nil, 5)
	wantExplored(t, "zeros", make([]byte, 8*128), steps[:1], 1)
}

func TestExploreRefusals(t *testing.T) {
	disk := oldVolume(t, 32)
	good := waitingWrites(disk, 2)
	for name, c := range map[string]struct {
		step impl.Step
		code int64
	}{
		"kind 0":             {impl.Step{}, impl.ErrForm},
		"kind 3":             {impl.Step{Kind: 3, Data: blockOf(0)}, impl.ErrForm},
		"block -1":           {impl.Step{Kind: impl.StepWrite, Block: -1, Data: blockOf(0)}, impl.ErrRange},
		"block 32":           {impl.Step{Kind: impl.StepWrite, Block: 32, Data: blockOf(0)}, impl.ErrRange},
		"a byte too few":     {impl.Step{Kind: impl.StepWrite, Block: 2, Data: make([]byte, 127)}, impl.ErrSize},
		"no data":            {impl.Step{Kind: impl.StepWrite, Block: 2}, impl.ErrSize},
		"range ahead of all": {impl.Step{Kind: impl.StepWrite, Block: math.MaxInt64}, impl.ErrRange},
	} {
		steps := append(slices.Clone(good), c.step)
		found, code := impl.Explore(disk, steps, 3)
		if code != c.code || len(found) != 0 {
			t.Errorf("%s: code %d, found %v", name, code, found)
		}
		wantExplored(t, name+" beyond the count", disk, steps, 2)
		if _, code := impl.Explore(disk[1:], steps, 3); code != impl.ErrDevice {
			t.Errorf("%s, no image: code %d", name, code)
		}
		many := append(waitingWrites(disk, 9), c.step)
		if _, code := impl.Explore(disk, many, 10); code != c.code {
			t.Errorf("%s behind nine writes: code %d", name, code)
		}
	}
	flushes := slices.Repeat([]impl.Step{flushing()}, impl.MaxSteps+1)
	if found, code := impl.Explore(disk, flushes, 0); code != impl.ErrLimit || len(found) != 0 {
		t.Errorf("too many steps: code %d, found %v", code, found)
	}
	if found, code := impl.Explore(disk, flushes[1:], math.MaxInt64); code != impl.OK || len(found) != 1 {
		t.Errorf("as many steps as may be: code %d, found %v", code, found)
	}
}

func TestSameAnswerInManyRuns(t *testing.T) {
	disk := oldVolume(t, 64)
	steps := waitingWrites(disk, 8)
	want, _ := plainExplore(disk, steps, 8)
	codes := plainChecks(disk)
	before := runtime.GOMAXPROCS(0)
	defer runtime.GOMAXPROCS(before)
	for i := range 60 {
		runtime.GOMAXPROCS(1 + i%before)
		found, code := impl.Explore(disk, steps, 8)
		if code != impl.OK || !slices.Equal(found, want) {
			t.Fatalf("run %d: code %d, found %v, want %v", i, code, found, want)
		}
		checked, code := impl.CheckBlocks(disk)
		if code != impl.OK || !slices.Equal(checked, codes) {
			t.Fatalf("run %d: code %d, checked %v, want %v", i, code, checked, codes)
		}
	}
}

// A worker that is done may need a moment to leave; one that waits for ever does not leave.
func TestNoWorkerIsLeftBehind(t *testing.T) {
	disk := oldVolume(t, 64)
	steps := waitingWrites(disk, 8)
	before := runtime.NumGoroutine()
	for range 20 {
		impl.Explore(disk, steps, 8)
		impl.Explore(disk, steps, 0)
		impl.CheckBlocks(disk)
	}
	for range 200 {
		if runtime.NumGoroutine() <= before {
			return
		}
		time.Sleep(10 * time.Millisecond)
	}
	t.Errorf("%d goroutines, before the calls %d", runtime.NumGoroutine(), before)
}

func TestExploreKeepsNothing(t *testing.T) {
	disk := oldVolume(t, 32)
	steps := waitingWrites(disk, 6)
	diskBefore, stepsBefore := bytes.Clone(disk), copySteps(steps)
	first, _ := impl.Explore(disk, steps, 6)
	want := slices.Clone(first)
	turnNumbers(first)
	again, _ := impl.Explore(disk, steps, 6)
	if !slices.Equal(again, want) {
		t.Errorf("found %v, then %v", want, again)
	}
	if !bytes.Equal(disk, diskBefore) || !sameSteps(steps, stepsBefore) {
		t.Errorf("Explore wrote into an argument")
	}
}
