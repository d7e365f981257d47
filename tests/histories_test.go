package tests

import (
	"bytes"
	"maps"
	"math/rand"
	"slices"
	"strconv"
	"strings"
	"testing"

	"loop.example/s01595/impl"
)

// The tests of this file write long scripts with clones, drops, syncs and crashes, on own volumes.

func historyTempers() []temper {
	return []temper{
		{what: "clones in plenty", create: 8, mkdir: 3, write: 6, fill: 1, read: 4, list: 3, unlink: 4, rename: 3, space: 4, clone: 4, drop: 3, sync: 2, crash: 1, longest: 60, names: "abcdefghij"},
		{what: "syncs and crashes in plenty", create: 6, mkdir: 3, write: 6, fill: 1, read: 2, list: 2, unlink: 3, rename: 2, space: 5, clone: 2, drop: 2, sync: 7, crash: 8, longest: 80, names: "abcdef"},
		{what: "few and long files in clones", create: 2, mkdir: 1, write: 8, fill: 4, read: 5, list: 1, unlink: 2, rename: 1, space: 2, clone: 2, drop: 1, sync: 2, crash: 1, longest: 500, names: "abc"},
		{what: "no drop", create: 5, write: 5, unlink: 3, rename: 3, list: 2, space: 3, clone: 1, sync: 3, longest: 30, names: "abcdefg"},
		{what: "no sync", create: 5, mkdir: 2, write: 5, unlink: 6, rename: 3, list: 2, space: 3, clone: 3, drop: 3, crash: 1, longest: 30, names: "abcdefg"},
		{what: "one tree alone", create: 6, mkdir: 2, write: 6, fill: 2, unlink: 8, rename: 2, read: 2, space: 3, sync: 4, crash: 1, longest: 150, names: "abcde"},
	}
}

// ownImages are fresh volumes on what lay there before.
func ownImages(t *testing.T, blocks int64) map[string][]byte {
	t.Helper()
	out := map[string][]byte{}
	for what, before := range map[string][]byte{
		"zeros":         make([]byte, blocks*impl.BlockSize),
		"any pattern":   bytes.Repeat([]byte{3, 1, 4, 1, 5, 9, 2, 6}, int(blocks*impl.BlockSize/8)),
		"an old volume": oldVolume(t, blocks),
	} {
		disk, code := impl.Mkfs(before)
		wantCode(t, "Mkfs over "+what, code, impl.OK)
		out[what] = disk
	}
	return out
}

// wantSettled looks at the disk after a commit: promise 18, and the first half of promise 15.
func wantSettled(t *testing.T, what string, disk []byte, saved plainTrees) {
	t.Helper()
	wantMount(t, what, disk)
	v, code := impl.Mount(disk)
	reserve := (blocksIn(disk) + 17) / 20
	if code != impl.OK || v.Live > saved.itemCount() || v.Pinned > reserve || v.Live+v.Pinned+v.Free != blocksIn(disk)-2 {
		t.Errorf("%s: code %d, %+v, with %d items and a reserve of %d", what, code, v, saved.itemCount(), reserve)
	}
	wantTableSays(t, what, disk)
	wantReadAs(t, what, disk, saved)
}

// wantTableSays reads the table's chain alone, and holds its runs against the names that nodes and roots tell.
func wantTableSays(t *testing.T, what string, disk []byte) {
	t.Helper()
	v, _ := impl.Mount(disk)
	super, code := impl.DecodeSuper(rawAt(disk, v.Slot))
	wantCode(t, what+": DecodeSuper", code, impl.OK)
	names := make([]int64, blocksIn(disk))
	tables := make([]int64, blocksIn(disk))
	var said []impl.Run
	for b := super.Table; b != 0; {
		table, code := impl.DecodeTable(rawAt(disk, b))
		wantCode(t, what+": DecodeTable", code, impl.OK)
		said = append(said, table.Runs...)
		tables[b] = 1
		b = table.Next
	}
	var reached []int64
	for _, root := range super.Roots {
		names[root.Block]++
		reached = append(reached, root.Block)
	}
	seen := map[int64]int{}
	for at := 0; at < len(reached); at++ {
		if seen[reached[at]]++; seen[reached[at]] > 1 {
			continue
		}
		n, code := impl.DecodeNode(rawAt(disk, reached[at]))
		wantCode(t, what+": DecodeNode", code, impl.OK)
		for _, e := range n.Entries {
			if n.Kind == impl.KindInner {
				names[e.Child]++
				reached = append(reached, e.Child)
			}
		}
	}
	cur, com, _ := impl.VolumeCounts(disk)
	if !slices.Equal(cur, names) {
		t.Errorf("%s: current counts\n%v\nbut the names are\n%v", what, cur, names)
	}
	for b := range tables {
		names[b] += tables[b]
	}
	counts, code := impl.CountsOf(blocksIn(disk), said)
	if code != impl.OK || !slices.Equal(counts, names) || !slices.Equal(com, names) {
		t.Errorf("%s: the table says (code %d)\n%v\nthe committed counts are\n%v\nthe names are\n%v", what, code, counts, com, names)
	}
}

func sameFiles(a, b []impl.File) bool {
	return slices.Equal(a, b)
}

// wantReadAs wants that both readers tell the plain maps.
func wantReadAs(t *testing.T, what string, disk []byte, trees plainTrees) {
	t.Helper()
	views, code := impl.ReadAll(disk)
	if code != impl.OK || len(views) != len(trees) {
		t.Errorf("%s: ReadAll answers code %d and %d trees, want %d", what, code, len(views), len(trees))
		return
	}
	before := int64(-1)
	for _, view := range views {
		files, code := impl.ReadTree(disk, view.Tree)
		if code != impl.OK || !sameFiles(files, view.Files) {
			t.Errorf("%s: ReadTree of tree %d answers code %d, %v, and ReadAll %v", what, view.Tree, code, files, view.Files)
		}
		if view.Tree <= before || trees[view.Tree] == nil || !sameFiles(view.Files, trees[view.Tree].walk()) {
			t.Errorf("%s: tree %d behind %d reads %v, want %v", what, view.Tree, before, view.Files, trees[view.Tree].walk())
		}
		before = view.Tree
	}
}

// Several scripts, each on the disk that the one before left.
func TestHistoriesAgainstPlainMaps(t *testing.T) {
	r := rand.New(rand.NewSource(30))
	codes := map[int64]int{}
	begun, landed := 0, 0
	for _, blocks := range []int64{8, 9, 12, 16, 22, 23, 32, 48, 64, 128, 512} {
		images := ownImages(t, blocks)
		for _, over := range slices.Sorted(maps.Keys(images)) {
			for _, m := range historyTempers() {
				left := images[over]
				for part := range 3 {
					what := m.what + " on " + strconv.FormatInt(blocks, 10) + " blocks over " + over + ", part " + strconv.Itoa(part)
					w := &scribe{r: r, s: newPlainScript(left), temper: m}
					left = wantWritten(t, what, left, w, 60, codes)
					wantSettled(t, what, left, w.s.saved)
					begun, landed = begun+w.s.begun, landed+w.s.landed
				}
			}
		}
	}
	for _, code := range []int64{impl.OK, impl.ErrLimit, impl.ErrNoSpace, impl.ErrNoTree, impl.ErrNotFound, impl.ErrExist, impl.ErrNotDir, impl.ErrIsDir, impl.ErrNotEmpty, impl.ErrLast, impl.ErrRoot} {
		if codes[code] < 20 {
			t.Errorf("code %d came %d times only", code, codes[code])
		}
	}
	if begun < 200 || landed < 200 {
		t.Errorf("%d crashes lost their sync, %d did not: too few of one kind", begun, landed)
	}
}

func TestLongHistories(t *testing.T) {
	r := rand.New(rand.NewSource(31))
	for _, blocks := range []int64{24, 100, 512} {
		for _, m := range historyTempers() {
			disk := fresh(t, blocks)
			w := &scribe{r: r, s: newPlainScript(disk), temper: m}
			what := m.what + ", long, on " + strconv.FormatInt(blocks, 10) + " blocks"
			left := wantWritten(t, what, disk, w, impl.MaxLines, map[int64]int{})
			wantSettled(t, what, left, w.s.saved)
		}
	}
}

// After each sync the disk is looked at, not only behind the last line.
func TestDiskAfterEachSync(t *testing.T) {
	r := rand.New(rand.NewSource(32))
	for _, blocks := range []int64{8, 20, 40, 200} {
		for _, m := range historyTempers() {
			disk := fresh(t, blocks)
			w := &scribe{r: r, s: newPlainScript(disk), temper: m}
			for range 25 {
				lines := append(w.written(t, m.what, 5), told{"sync", w.s.answer(impl.Command{Op: impl.CmdSync})})
				disk = toldDisk(t, disk, lines...)
				if !bytes.Equal(disk, w.s.disk) {
					t.Fatalf("%s on %d blocks: another disk is left", m.what, blocks)
				}
				wantSettled(t, m.what, disk, w.s.saved)
			}
		}
	}
}

func sameOutcome(a, b impl.Outcome) bool {
	return a.Code == b.Code && slices.Equal(a.Answers, b.Answers) && bytes.Equal(a.Disk, b.Disk)
}

func TestScriptsCutBehindSyncs(t *testing.T) {
	r := rand.New(rand.NewSource(33))
	cuts := 0
	for _, blocks := range []int64{8, 16, 24, 64, 512} {
		for _, m := range historyTempers() {
			disk := fresh(t, blocks)
			w := &scribe{r: r, s: newPlainScript(disk), temper: m}
			lines := w.written(t, m.what, 120)
			whole := impl.RunScript(disk, scriptOf(lines))
			for at, l := range lines {
				if l.line != "sync" {
					continue
				}
				cuts++
				first := impl.RunScript(disk, scriptOf(lines[:at+1]))
				second := impl.RunScript(first.Disk, scriptOf(lines[at+1:]))
				second.Answers = slices.Concat(first.Answers, second.Answers)
				if first.Code != impl.OK || !sameOutcome(second, whole) {
					t.Errorf("%s on %d blocks, cut behind line %d: code %d and other answers or another disk", m.what, blocks, at, first.Code)
				}
			}
		}
	}
	if cuts < 100 {
		t.Errorf("only %d cuts", cuts)
	}
}

// speaksOf is -1 for a line without a tree.
func speaksOf(line string) int64 {
	c, code := impl.ParseLine(line)
	if code != impl.OK || c.Op == impl.CmdSync || c.Op == impl.CmdSpace || c.Op == impl.CmdCrash {
		return -1
	}
	return c.Tree
}

func changesFiles(line string) bool {
	c, code := impl.ParseLine(line)
	return code == impl.OK && slices.Contains([]int64{impl.CmdCreate, impl.CmdMkdir, impl.CmdWrite, impl.CmdFill, impl.CmdUnlink, impl.CmdRename}, c.Op)
}

// wayTo tells for b and each clone on its way up to which line its changes count.
func wayTo(lines []told, b int64) map[int64]int {
	until := map[int64]int{b: len(lines)}
	for at := len(lines) - 1; at >= 0; at-- {
		c, _ := impl.ParseLine(lines[at].line)
		if c.Op != impl.CmdClone || lines[at].want.Code != impl.OK {
			continue
		}
		if _, onTheWay := until[lines[at].want.Value]; onTheWay {
			until[c.Tree] = max(until[c.Tree], at)
		}
	}
	return until
}

// alone leaves out what promise 14 leaves out.
func alone(lines []told, b int64) []told {
	until := wayTo(lines, b)
	var kept []told
	for at, l := range lines {
		if !changesFiles(l.line) || at < until[speaksOf(l.line)] {
			kept = append(kept, l)
		}
	}
	return kept
}

func answersOf(t *testing.T, disk []byte, lines []told, b int64) ([]impl.Answer, []impl.File) {
	t.Helper()
	out := impl.RunScript(disk, scriptOf(append(slices.Clone(lines), done("sync"))))
	wantCode(t, "RunScript", out.Code, impl.OK)
	var answers []impl.Answer
	for at, l := range lines {
		if out.Answers[at].Code == impl.ErrNoSpace {
			t.Fatalf("%q wants for space", l.line)
		}
		if speaksOf(l.line) == b {
			answers = append(answers, out.Answers[at])
		}
	}
	files, code := impl.ReadTree(out.Disk, b)
	wantCode(t, "ReadTree", code, impl.OK)
	return answers, files
}

// What others do to their own clones is not to be seen in a clone.
func TestClonesAreAlone(t *testing.T) {
	r := rand.New(rand.NewSource(34))
	looked := 0
	for _, m := range historyTempers()[:4] {
		m.crash, m.longest = 0, 40
		for range 6 {
			disk := fresh(t, 512)
			w := &scribe{r: r, s: newPlainScript(disk), temper: m}
			lines := w.written(t, m.what, 130)
			for b := range w.s.trees {
				kept := alone(lines, b)
				answers, files := answersOf(t, disk, lines, b)
				again, filesAgain := answersOf(t, disk, kept, b)
				if !slices.Equal(answers, again) || !sameFiles(files, filesAgain) {
					t.Errorf("%s: clone %d is another one without %d lines of others", m.what, b, len(lines)-len(kept))
				}
				looked += len(lines) - len(kept)
			}
		}
	}
	if looked < 2000 {
		t.Errorf("only %d lines were left out", looked)
	}
}

// fullVolume lets lines of every kind run out of space in all clones.
func fullVolume(t *testing.T, blocks int64, m temper) (*scribe, []byte) {
	t.Helper()
	disk := fresh(t, blocks)
	w := &scribe{r: rand.New(rand.NewSource(blocks)), s: newPlainScript(disk), temper: m}
	codes := map[int64]int{}
	for range 12 {
		disk = wantWritten(t, m.what, disk, w, 80, codes)
		w.s = newPlainScript(disk)
		if codes[impl.ErrNoSpace] > 40 {
			return w, disk
		}
	}
	t.Fatalf("%s on %d blocks: no more than %d lines want for space", m.what, blocks, codes[impl.ErrNoSpace])
	return nil, nil
}

func greedy() []temper {
	return []temper{
		{what: "greedy files", create: 8, mkdir: 2, write: 4, clone: 1, sync: 2, space: 1, longest: 100, names: "abcdefghijklmnopqrstuvwxyz"},
		{what: "greedy texts", create: 4, fill: 8, clone: 1, sync: 1, space: 1, longest: 900, names: "abcdefghijklmnopqrstuvwxyz"},
		{what: "greedy clones", create: 3, write: 8, unlink: 1, rename: 2, clone: 3, sync: 1, space: 1, longest: 300, names: "abcdefghijklmnop"},
	}
}

// A sync finds room where no put does, as often as it is asked for.
func TestSyncOnFullVolumes(t *testing.T) {
	for _, blocks := range []int64{8, 12, 22, 23, 42, 43, 64, 100} {
		for _, m := range greedy() {
			w, disk := fullVolume(t, blocks, m)
			var lines []told
			for at := range 30 {
				c := []impl.Command{
					{Op: impl.CmdFill, Tree: w.someTree(), Path: w.existing(w.someTree(), func(f *plainFile) bool { return !f.dir }), Len: 900, Data: "#"},
					{Op: impl.CmdSync},
					{Op: impl.CmdSpace},
					{Op: impl.CmdCreate, Tree: w.someTree(), Path: "/" + strconv.Itoa(at)},
					{Op: impl.CmdClone, Tree: w.someTree()},
					{Op: impl.CmdSync},
				}[at%6]
				lines = append(lines, told{textOf(c), w.s.answer(c)})
				if c.Op == impl.CmdSync && lines[at].want.Code != impl.OK {
					t.Errorf("%s on %d blocks: a sync is refused with code %d", m.what, blocks, lines[at].want.Code)
				}
			}
			disk = toldDisk(t, disk, lines...)
			wantSettled(t, m.what, disk, w.s.saved)
		}
	}
}

// emptied drops every tree but one and takes all out of that one, in rounds: a full volume may refuse an unlink at first. It is nil when a round gets no further: of the least devices a tree may fill so much that no node of it can be copied.
func emptied(t *testing.T, disk []byte, keep int64) []byte {
	t.Helper()
	v, _ := impl.Mount(disk)
	script := ""
	for _, root := range v.Roots {
		if root.Tree != keep {
			script += "drop " + strconv.FormatInt(root.Tree, 10) + "\n"
		}
	}
	disk = impl.RunScript(disk, script+"sync\nsync\n").Disk
	for before := -1; ; {
		files, code := impl.ReadTree(disk, keep)
		wantCode(t, "ReadTree", code, impl.OK)
		if len(files) == 0 {
			return disk
		}
		if len(files) == before {
			return nil
		}
		before = len(files)
		slices.Reverse(files)
		script := ""
		for _, f := range files {
			script += "unlink " + strconv.FormatInt(keep, 10) + " " + f.Path + "\n"
		}
		disk = impl.RunScript(disk, script+"sync\n").Disk
	}
}

func TestEmptiedVolumes(t *testing.T) {
	looked := 0
	for _, blocks := range []int64{8, 12, 22, 23, 42, 64, 128} {
		for _, m := range greedy() {
			w, full := fullVolume(t, blocks, m)
			for keep := range w.s.trees {
				disk := emptied(t, full, keep)
				if disk == nil {
					continue
				}
				looked++
				generation := newPlainScript(disk).forest.generation
				out := impl.RunScript(disk, "sync\nsync\nspace\n")
				v, code := impl.Mount(out.Disk)
				reserve := (blocks + 17) / 20
				if code != impl.OK || v.Live != 1 || v.Free < blocks-3-reserve || v.Generation != generation+2 {
					t.Errorf("%s on %d blocks, tree %d emptied: code %d, %+v", m.what, blocks, keep, code, v)
				}
				want := strings.Join([]string{"1", strconv.FormatInt(v.Pinned, 10), strconv.FormatInt(v.Generation, 10)}, " ")
				if len(out.Answers) != 3 || out.Answers[2] != (impl.Answer{Value: v.Free, Data: want}) {
					t.Errorf("%s on %d blocks, tree %d emptied: answers %+v, mounted as %+v", m.what, blocks, keep, out.Answers, v)
				}
			}
		}
	}
	if looked < 100 {
		t.Errorf("only %d trees were emptied", looked)
	}
}

// Two syncs alone are enough, where the drops and the last unlinks stand right ahead of them.
func TestEmptiedInOneScript(t *testing.T) {
	var lines []told
	for at := range 12 {
		lines = append(lines, done("create 0 /"+strconv.Itoa(at)), gives("clone 0", int64(at+1), ""), gives("sync", int64(at+2), ""))
	}
	left := toldDisk(t, fresh(t, 256), lines...)
	script := "drop 0\n"
	for at := range 11 {
		script += "drop " + strconv.Itoa(at+1) + "\n"
	}
	for at := range 12 {
		script += "unlink 12 /" + strconv.Itoa(at) + "\n"
	}
	out := impl.RunScript(left, script+"space\nsync\nspace\nsync\nspace\n")
	for at, a := range out.Answers {
		if a.Code != impl.OK {
			t.Errorf("answer %d: %+v", at, a)
		}
	}
	want := []impl.Answer{{Value: 14}, {Value: 252, Data: "1 1 14"}, {Value: 15}, {Value: 252, Data: "1 1 15"}}
	if got := out.Answers[len(out.Answers)-4:]; !slices.Equal(got, want) {
		t.Errorf("the last answers are %+v, want %+v", got, want)
	}
}
