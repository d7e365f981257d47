package tests

import (
	"bytes"
	"math"
	"math/rand"
	"slices"
	"testing"

	"loop.example/s01595/impl"
)

func fresh(t *testing.T, blocks int64) []byte {
	t.Helper()
	disk, code := impl.Mkfs(make([]byte, blocks*impl.BlockSize))
	if code != impl.OK {
		t.Fatalf("Mkfs of %d blocks: code %d", blocks, code)
	}
	return disk
}

// applied carries steps out in pieces, as a run may have more of them than one call takes.
func applied(t *testing.T, disk []byte, steps []impl.Step) []byte {
	t.Helper()
	d := impl.Device{Blocks: blocksIn(disk), Disk: disk}
	for piece := range slices.Chunk(steps, impl.MaxSteps) {
		var code int64
		d, code = impl.DevApply(d, piece, math.MaxInt64)
		if code != impl.OK {
			t.Fatalf("the steps are refused: code %d", code)
		}
	}
	if len(d.Cache) != 0 {
		t.Fatalf("%d writes wait after the last step", len(d.Cache))
	}
	return d.Disk
}

func after(t *testing.T, disk []byte, ops ...impl.TreeOp) []byte {
	t.Helper()
	_, steps, code := impl.VolumeRun(disk, ops)
	if code != impl.OK {
		t.Fatalf("VolumeRun: code %d", code)
	}
	return applied(t, disk, steps)
}

// oldVolume has two sound slots, both with items in them.
func oldVolume(t *testing.T, blocks int64) []byte {
	t.Helper()
	disk := after(t, fresh(t, blocks), puts(0, "abc")...)
	disk = after(t, disk, append(puts(0, "de"), clone(0))...)
	if plainSlot(disk, 0) == nil || plainSlot(disk, 1) == nil {
		t.Fatalf("the old volume of %d blocks has not two sound slots", blocks)
	}
	return disk
}

func without(disk []byte, slots ...int64) []byte {
	out := bytes.Clone(disk)
	for _, s := range slots {
		clear(rawAt(out, s))
	}
	return out
}

// wantMount wants the whole of what can be seen of a mounted image as the plain look finds it.
func wantMount(t *testing.T, what string, disk []byte) {
	t.Helper()
	v, code := impl.Mount(disk)
	cur, com, countCode := impl.VolumeCounts(disk)
	want := plainMount(disk)
	if want == nil {
		wantCode(t, what+": Mount", code, impl.ErrCorrupt)
		wantCode(t, what+": VolumeCounts", countCode, impl.ErrCorrupt)
		if !sameVolume(v, impl.Volume{}) || len(cur) != 0 || len(com) != 0 {
			t.Errorf("%s: refused, and yet %+v %v %v", what, v, cur, com)
		}
		return
	}
	wantCode(t, what+": Mount", code, impl.OK)
	wantCode(t, what+": VolumeCounts", countCode, impl.OK)
	if !sameVolume(v, want.volume()) {
		t.Errorf("%s: volume %+v, want %+v", what, v, want.volume())
	}
	if !slices.Equal(cur, want.current()) || !slices.Equal(com, want.committed()) {
		t.Errorf("%s: counts\n%v\n%v\nwant\n%v\n%v", what, cur, com, want.current(), want.committed())
	}
}

func mkfsLayouts(blocks int64) (node, table, super layout) {
	node = layNode(leaf())
	table = layTable(runs(impl.Run{Start: 2, Len: 2, Count: 1}))
	super = laySuper(impl.Super{Blocks: blocks, Generation: 1, Next: 1, Table: 3, Roots: []impl.Root{{Tree: 0, Block: 2}}})
	return node, table, super
}

func TestMkfsSteps(t *testing.T) {
	for _, blocks := range []int64{8, 9, 21, 22, 255, 256, 511, 512} {
		steps, code := impl.MkfsSteps(blocks)
		wantCode(t, "MkfsSteps", code, impl.OK)
		node, table, super := mkfsLayouts(blocks)
		zeros := layout{bytes: blockOf(0)}
		want := []impl.Step{writing(0, zeros), writing(1, zeros), flushing(), writing(2, node), writing(3, table), flushing(), writing(1, super), flushing()}
		if !sameSteps(steps, want) {
			t.Errorf("%d blocks: steps %v, want %v", blocks, steps, want)
		}
	}
	for _, blocks := range []int64{7, 513, 0, 1, -8, math.MinInt64, math.MaxInt64} {
		steps, code := impl.MkfsSteps(blocks)
		wantCode(t, "MkfsSteps out of bounds", code, impl.ErrDevice)
		if len(steps) != 0 {
			t.Errorf("%d blocks: refused, and yet %d steps", blocks, len(steps))
		}
	}
}

func imagesFromBefore(t *testing.T, blocks int64) map[string][]byte {
	old := oldVolume(t, blocks)
	return map[string][]byte{
		"zeros":               make([]byte, blocks*impl.BlockSize),
		"ones":                bytes.Repeat([]byte{0xFF}, int(blocks*impl.BlockSize)),
		"other bytes":         bytes.Repeat([]byte{1, 2, 3, 4, 5, 6, 7}, int(blocks*impl.BlockSize))[:blocks*impl.BlockSize],
		"a fresh volume":      fresh(t, blocks),
		"both slots sound":    old,
		"slot 0 alone sound":  without(old, 1),
		"slot 1 alone sound":  without(old, 0),
		"both slots blank":    without(old, 0, 1),
		"a commit of nothing": after(t, fresh(t, blocks)),
	}
}

func TestMkfsOverAnyImage(t *testing.T) {
	for _, blocks := range []int64{8, 9, 100, 511, 512} {
		for name, before := range imagesFromBefore(t, blocks) {
			disk, code := impl.Mkfs(before)
			wantCode(t, "Mkfs over "+name, code, impl.OK)
			node, table, super := mkfsLayouts(blocks)
			want := bytes.Clone(before)
			copy(want, slices.Concat(blockOf(0), super.bytes, node.bytes, table.bytes))
			if !bytes.Equal(disk, want) {
				t.Errorf("Mkfs over %s of %d blocks is another image", name, blocks)
			}
			wantFresh(t, "over "+name, disk)
		}
	}
}

func wantFresh(t *testing.T, what string, disk []byte) {
	t.Helper()
	v, code := impl.Mount(disk)
	want := impl.Volume{Slot: 1, Generation: 1, Next: 1, Roots: []impl.Root{{Tree: 0, Block: 2}}, Table: []int64{3}, Live: 1, Pinned: 1, Free: blocksIn(disk) - 4}
	if code != impl.OK || !sameVolume(v, want) {
		t.Errorf("%s: code %d, volume %+v, want %+v", what, code, v, want)
	}
	cur, com, _ := impl.VolumeCounts(disk)
	freshCur, freshCom := mustCounts(t, blocksIn(disk), nil)
	if !slices.Equal(cur, freshCur) || !slices.Equal(com, freshCom) {
		t.Errorf("%s: counts %v %v, want %v %v", what, cur, com, freshCur, freshCom)
	}
	if p := plainMount(disk); p == nil || len(p.forest().items(2)) != 0 {
		t.Errorf("%s: the tree is not empty", what)
	}
}

// volumeCalls tells for each call on an image its code, and whether its other answers are empty.
func volumeCalls(ops []impl.TreeOp, steps []impl.Step) map[string]func(disk []byte) (int64, bool) {
	return map[string]func(disk []byte) (int64, bool){
		"Mkfs": func(disk []byte) (int64, bool) {
			out, code := impl.Mkfs(disk)
			return code, len(out) == 0
		},
		"Mount": func(disk []byte) (int64, bool) {
			v, code := impl.Mount(disk)
			return code, sameVolume(v, impl.Volume{})
		},
		"VolumeRun": func(disk []byte) (int64, bool) {
			answers, made, code := impl.VolumeRun(disk, ops)
			return code, len(answers) == 0 && len(made) == 0
		},
		"VolumeCounts": func(disk []byte) (int64, bool) {
			cur, com, code := impl.VolumeCounts(disk)
			return code, len(cur) == 0 && len(com) == 0
		},
		"CheckBlocks": func(disk []byte) (int64, bool) {
			codes, code := impl.CheckBlocks(disk)
			return code, len(codes) == 0
		},
		"Explore": func(disk []byte) (int64, bool) {
			found, code := impl.Explore(disk, steps, int64(len(steps)))
			return code, len(found) == 0
		},
	}
}

func TestLengthsOfImages(t *testing.T) {
	good := fresh(t, 512)
	calls := volumeCalls(make([]impl.TreeOp, impl.MaxOps+1), make([]impl.Step, impl.MaxSteps+1))
	for _, length := range []int{0, 1, 127, 128, 7 * 128, 8*128 - 1, 8*128 + 1, 9*128 - 1, 511*128 + 64, 512*128 - 1, 512*128 + 1, 513 * 128, 1024 * 128} {
		disk := append(bytes.Clone(good), make([]byte, 512*128)...)[:length]
		for name, call := range calls {
			code, empty := call(disk)
			if code != impl.ErrDevice || !empty {
				t.Errorf("%s of %d bytes: code %d, empty answers: %v", name, length, code, empty)
			}
		}
	}
	for name, call := range volumeCalls(nil, nil) {
		if code, empty := call(nil); code != impl.ErrDevice || !empty {
			t.Errorf("%s of nothing: code %d, empty answers: %v", name, code, empty)
		}
	}
}

func TestErrorsOfMountComeFirst(t *testing.T) {
	calls := volumeCalls(make([]impl.TreeOp, impl.MaxOps+1), nil)
	for _, name := range []string{"Mount", "VolumeRun", "VolumeCounts"} {
		code, empty := calls[name](make([]byte, 64*128))
		if code != impl.ErrCorrupt || !empty {
			t.Errorf("%s of zeros: code %d, empty answers: %v", name, code, empty)
		}
	}
	code, empty := calls["VolumeRun"](fresh(t, 64))
	if code != impl.ErrLimit || !empty {
		t.Errorf("VolumeRun of too many operations: code %d, empty answers: %v", code, empty)
	}
}

// glance is what a crash may leave to be seen: the volume and all that lies in its trees.
type glance struct {
	volume impl.Volume
	code   int64
	items  [][]impl.Item
}

func glanceAt(disk []byte) glance {
	v, code := impl.Mount(disk)
	g := glance{volume: v, code: code}
	for _, r := range v.Roots {
		g.items = append(g.items, plainMount(disk).forest().items(r.Block))
	}
	return g
}

func sameGlance(a, b glance) bool {
	return a.code == b.code && sameVolume(a.volume, b.volume) && slices.EqualFunc(a.items, b.items, slices.Equal[[]impl.Item])
}

// everyCrash hands the disk of each crash after the first count steps to look, with the bits of what survived.
func everyCrash(t *testing.T, disk []byte, steps []impl.Step, count int, look func(survived int, left []byte)) {
	t.Helper()
	d, code := impl.DevApply(impl.Device{Blocks: blocksIn(disk), Disk: disk}, steps, int64(count))
	wantCode(t, "DevApply", code, impl.OK)
	for survived := range 1 << len(d.Cache) {
		left, code := impl.DevCrash(d, []byte{byte(survived)})
		wantCode(t, "DevCrash", code, impl.OK)
		look(survived, left.Disk)
	}
}

// crashOfMkfs says what is to be found: after the flush of the blank slots nothing of the old volume comes back.
func crashOfMkfs(before []byte, empty glance, count, survived int) glance {
	switch {
	case count <= 2:
		for slot := range int64(2) {
			if survived>>slot&1 == 1 {
				before = without(before, slot)
			}
		}
		return glanceAt(before)
	case count == 8 || count == 7 && survived == 1:
		return empty
	}
	return glance{code: impl.ErrCorrupt}
}

func TestCrashInMkfs(t *testing.T) {
	for _, blocks := range []int64{8, 64} {
		steps, _ := impl.MkfsSteps(blocks)
		for name, before := range imagesFromBefore(t, blocks) {
			made, _ := impl.Mkfs(before)
			empty := glanceAt(made)
			for count := range len(steps) + 1 {
				everyCrash(t, before, steps, count, func(survived int, left []byte) {
					got, want := glanceAt(left), crashOfMkfs(before, empty, count, survived)
					if !sameGlance(got, want) {
						t.Errorf("Mkfs over %s of %d blocks, crash after %d steps, survivors %b: found %+v, want %+v", name, blocks, count, survived, got, want)
					}
				})
			}
		}
	}
}

// wantPromise10 looks at the steps alone.
func wantPromise10(t *testing.T, what string, steps []impl.Step, com []int64) {
	t.Helper()
	firstSuper := slices.IndexFunc(steps, func(s impl.Step) bool { return s.Kind == impl.StepWrite && s.Block < 2 })
	for i, s := range steps {
		isFlush := func(at int) bool { return at >= 0 && at < len(steps) && steps[at].Kind == impl.StepFlush }
		switch {
		case s.Kind == impl.StepFlush:
			if s.Block != 0 || len(s.Data) != 0 {
				t.Errorf("%s: the flush at %d has fields: %+v", what, i, s)
			}
		case s.Kind != impl.StepWrite || len(s.Data) != impl.BlockSize:
			t.Errorf("%s: step %d is %+v", what, i, s)
		case s.Block < 2 && !(isFlush(i-1) && isFlush(i+1)):
			t.Errorf("%s: the superblock write at %d does not stand alone between two flushes", what, i)
		case s.Block >= 2 && i < firstSuper && com[s.Block] > 0:
			t.Errorf("%s: step %d writes to block %d, which is committed", what, i, s.Block)
		}
	}
}

// wantRun carries a piece of a row out, and gives the image after it.
func wantRun(t *testing.T, what string, disk []byte, p *plainForest, ops []impl.TreeOp) []byte {
	t.Helper()
	answers, steps, code := impl.VolumeRun(disk, ops)
	wantCode(t, what+": VolumeRun", code, impl.OK)
	_, com, _ := impl.VolumeCounts(disk)
	wantPromise10(t, what, steps, com)
	wantAnswers, wantSteps := p.run(ops)
	if !slices.Equal(answers, wantAnswers) {
		t.Fatalf("%s: answers\n%v\nwant\n%v", what, answers, wantAnswers)
	}
	if !sameSteps(steps, wantSteps) {
		t.Fatalf("%s: steps\n%v\nwant\n%v", what, steps, wantSteps)
	}
	out := applied(t, disk, steps)
	wantMount(t, what, out)
	return out
}

func wantMountedAs(t *testing.T, what string, disk []byte, p *plainForest) {
	t.Helper()
	v, _ := impl.Mount(disk)
	cur, com, _ := impl.VolumeCounts(disk)
	if v.Generation != p.generation || v.Next != p.next || !slices.Equal(v.Roots, p.roots) || !slices.Equal(cur, p.counts()) || !slices.Equal(com, p.com) {
		t.Fatalf("%s: mounted as %+v, want generation %d, next %d, roots %v", what, v, p.generation, p.next, p.roots)
	}
}

func TestVolumeRunAgainstModel(t *testing.T) {
	r := rand.New(rand.NewSource(9))
	for _, row := range someRows(10, 160) {
		disk := fresh(t, row.blocks)
		p := newPlainForest(row.blocks)
		for rest := row.ops; len(rest) > 0; {
			size := min(len(rest), r.Intn(40))
			disk = wantRun(t, row.name, disk, p, rest[:size])
			wantMountedAs(t, row.name, disk, p)
			rest = rest[size:]
		}
	}
}

func TestRunGoesOnFromTheDisk(t *testing.T) {
	for _, row := range someRows(11, 200) {
		cut := slices.Clone(row.ops)
		cut = slices.Insert(cut, 100, commit())
		want, code := impl.TreeRun(row.blocks, cut)
		wantCode(t, "TreeRun", code, impl.OK)
		disk := fresh(t, row.blocks)
		first, steps, _ := impl.VolumeRun(disk, row.ops[:100])
		second, _, _ := impl.VolumeRun(applied(t, disk, steps), row.ops[100:])
		got := slices.Concat(first, second)[:len(want)]
		if !slices.Equal(got, want) {
			t.Errorf("%s: in two runs\n%v\nwant as in one\n%v", row.name, got, want)
		}
	}
}

// stepPlaces tells the block of each write, and -1 for a flush.
func stepPlaces(steps []impl.Step) []int64 {
	var out []int64
	for _, s := range steps {
		if s.Kind == impl.StepFlush {
			out = append(out, -1)
		} else {
			out = append(out, s.Block)
		}
	}
	return out
}

func TestOrderOfStepsInCommits(t *testing.T) {
	const flush = -1
	disk := fresh(t, 32)
	// The root's copy goes to 4; it splits into 4 and 5 below 6; the table goes to 7.
	_, steps, _ := impl.VolumeRun(disk, puts(0, "abcdef"))
	if got := stepPlaces(steps); !slices.Equal(got, []int64{4, 5, 6, 7, flush, 0, flush}) {
		t.Errorf("steps %v", got)
	}
	disk = applied(t, disk, steps)
	// Nothing is dirty: the table goes to 2, and 7 is free. Then the way to f: 6 goes to 3 and 5 to 7, the table to 8.
	ops := []impl.TreeOp{commit(), put(0, "f", "new"), get(0, "a"), put(9, "x", ""), del(0, "x")}
	answers, steps, _ := impl.VolumeRun(disk, ops)
	if got := stepPlaces(steps); !slices.Equal(got, []int64{2, flush, 1, flush, 3, 7, 8, flush, 0, flush}) {
		t.Errorf("steps %v", got)
	}
	want := []impl.TreeAns{{Value: 1}, {Value: 1}, {Val: "va"}, refused(impl.ErrNoTree), refused(impl.ErrNotFound), {Value: 3}}
	if !slices.Equal(answers, want) {
		t.Errorf("answers %v, want %v", answers, want)
	}
	v, _ := impl.Mount(applied(t, disk, steps))
	if v.Generation != 4 || v.Slot != 0 || !slices.Equal(v.Table, []int64{8}) {
		t.Errorf("volume %+v", v)
	}
}

func TestAsManyOperationsAsMayBe(t *testing.T) {
	ops := slices.Repeat([]impl.TreeOp{commit()}, impl.MaxOps)
	disk := fresh(t, 8)
	answers, steps, code := impl.VolumeRun(disk, ops)
	wantCode(t, "MaxOps commits", code, impl.OK)
	if len(answers) != impl.MaxOps+1 || len(steps) != 4*(impl.MaxOps+1) {
		t.Fatalf("%d answers, %d steps", len(answers), len(steps))
	}
	wantPromise10(t, "MaxOps commits", steps, make([]int64, 8))
	v, code := impl.Mount(applied(t, disk, steps))
	if code != impl.OK || v.Generation != impl.MaxOps+2 {
		t.Errorf("code %d, volume %+v", code, v)
	}
	answers, steps, code = impl.VolumeRun(disk, append(ops, commit()))
	if code != impl.ErrLimit || len(answers) != 0 || len(steps) != 0 {
		t.Errorf("one operation more: code %d, %d answers, %d steps", code, len(answers), len(steps))
	}
}

func TestTableOfMoreBlocks(t *testing.T) {
	disk := fresh(t, 512)
	p := newPlainForest(512)
	r := rand.New(rand.NewSource(12))
	most := 0
	for range 12 {
		ops := randomOps(r, 120, 60, habit{puts: 12, deletes: 5, clones: 1, commits: 1})
		disk = wantRun(t, "many runs", disk, p, ops)
		wantMountedAs(t, "many runs", disk, p)
		v, _ := impl.Mount(disk)
		most = max(most, len(v.Table))
	}
	if most < 3 {
		t.Errorf("no table had more than %d blocks", most)
	}
}

func TestVolumeSharesNothing(t *testing.T) {
	disk := oldVolume(t, 64)
	ops := append(puts(0, "xyz"), commit(), put(1, "q", "r"))
	_, steps, _ := impl.VolumeRun(disk, ops)
	// What lies behind the end of a list, within its capacity, is the caller's too.
	longDisk, longOps, longSteps := append(bytes.Clone(disk), disk...), append(slices.Clone(ops), ops...), append(copySteps(steps), copySteps(steps)...)
	for name, call := range volumeCalls(longOps[:len(ops)], longSteps[:len(steps)]) {
		diskBefore, opsBefore, stepsBefore := bytes.Clone(longDisk), slices.Clone(longOps), copySteps(longSteps)
		call(longDisk[:len(disk)])
		if !bytes.Equal(longDisk, diskBefore) || !slices.Equal(longOps, opsBefore) || !sameSteps(longSteps, stepsBefore) {
			t.Errorf("%s wrote into an argument", name)
		}
	}
	before := bytes.Clone(disk)
	made, _ := impl.Mkfs(disk)
	turnBytes(made)
	v, _ := impl.Mount(disk)
	turnNumbers(v.Table)
	turnRoots(v.Roots)
	cur, com, _ := impl.VolumeCounts(disk)
	turnNumbers(cur)
	turnNumbers(com)
	codes, _ := impl.CheckBlocks(disk)
	turnNumbers(codes)
	again, _, _ := impl.VolumeRun(disk, ops)
	clear(again)
	if !bytes.Equal(disk, before) {
		t.Errorf("a change of an answer changed the image")
	}
	wantMount(t, "after answers were changed", disk)
}

func turnRoots(list []impl.Root) {
	list = list[:cap(list)]
	for i := range list {
		list[i] = impl.Root{Tree: ^list[i].Tree, Block: ^list[i].Block}
	}
}

// wantStepsApart turns the data of each step in its turn and looks whether another one feels it.
func wantStepsApart(t *testing.T, what string, steps []impl.Step) {
	t.Helper()
	for i := range steps {
		before := copySteps(steps)
		turnBytes(steps[i].Data)
		turnBytes(before[i].Data)
		for j := range steps {
			if !bytes.Equal(steps[j].Data, before[j].Data[:len(steps[j].Data)]) {
				t.Errorf("%s: steps %d and %d share memory", what, i, j)
			}
		}
		turnBytes(steps[i].Data)
	}
}

func TestListsOfOneAnswerAreApart(t *testing.T) {
	disk := oldVolume(t, 64)
	cur, com, _ := impl.VolumeCounts(disk)
	comBefore := slices.Clone(com)
	turnNumbers(cur)
	if !slices.Equal(com, comBefore) {
		t.Errorf("the two lists of counts share memory")
	}
	steps, _ := impl.MkfsSteps(64)
	wantStepsApart(t, "MkfsSteps", steps)
	_, steps, _ = impl.VolumeRun(disk, append(puts(0, "klmn"), commit(), put(1, "q", "r"), commit()))
	wantStepsApart(t, "VolumeRun", steps)
	kept := bytes.Clone(disk)
	for _, s := range steps {
		turnBytes(s.Data)
	}
	if !bytes.Equal(disk, kept) {
		t.Errorf("a change of the steps changed the image")
	}
}
