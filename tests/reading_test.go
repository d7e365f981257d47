package tests

import (
	"bytes"
	"math"
	"math/rand"
	"runtime"
	"slices"
	"strconv"
	"strings"
	"testing"
	"time"

	"loop.example/s01595/impl"
)

func dirAt(path string) impl.File {
	return impl.File{Path: path, Kind: impl.DirKind}
}

func fileAt(path, data string) impl.File {
	return impl.File{Path: path, Kind: impl.FileKind, Size: int64(len(data)), Data: data}
}

func wantTree(t *testing.T, what string, disk []byte, tree int64, want ...impl.File) {
	t.Helper()
	files, code := impl.ReadTree(disk, tree)
	if code != impl.OK || !sameFiles(files, want) {
		t.Errorf("%s, tree %d: code %d, files %v, want %v", what, tree, code, files, want)
	}
}

// wantUnread wants both codes, and nothing beside them.
func wantUnread(t *testing.T, what string, disk []byte, tree, ofTree, ofAll int64) {
	t.Helper()
	files, code := impl.ReadTree(disk, tree)
	if code != ofTree || len(files) != 0 {
		t.Errorf("%s: ReadTree of tree %d answers code %d and %d files, want code %d", what, tree, code, len(files), ofTree)
	}
	views, code := impl.ReadAll(disk)
	if code != ofAll || ofAll != impl.OK && len(views) != 0 {
		t.Errorf("%s: ReadAll answers code %d and %d trees, want code %d", what, code, len(views), ofAll)
	}
}

func TestTreesAsTheyAreRead(t *testing.T) {
	zeros := strings.Repeat("\x00", 1000)
	disk := someFiles().volume(t, 3)
	long := []byte(zeros)
	long[0] = 'x'
	copy(long[980:], "0123456789")
	want := []impl.File{
		dirAt("/d"),
		dirAt("/d/e"),
		fileAt("/d/e/12345678", string(long)),
		fileAt("/d/f", "0123456789"+zeros[:10]+"abcde"),
		fileAt("/g", ""),
	}
	wantTree(t, "some files", disk, 2, want...)
	wantTree(t, "no files", disk, 0)
	views, code := impl.ReadAll(disk)
	if code != impl.OK || len(views) != 3 || len(views[0].Files) != 0 || len(views[1].Files) != 0 || !sameFiles(views[2].Files, want) {
		t.Errorf("ReadAll: code %d, %v", code, views)
	}
	wantTree(t, "a fresh volume", fresh(t, 8), 0)
	if views, code := impl.ReadAll(fresh(t, 8)); code != impl.OK || len(views) != 1 || views[0].Tree != 0 || len(views[0].Files) != 0 {
		t.Errorf("ReadAll of a fresh volume: code %d, %v", code, views)
	}
}

// A slash is no byte of a name: what is in a directory comes ahead of a name that is longer than the directory's.
func TestOrderOfTheWalk(t *testing.T) {
	disk := toldDisk(t, fresh(t, 128),
		done("mkdir 0 /b"),
		done("create 0 /b!"),
		done("create 0 /b0"),
		done("mkdir 0 /a"),
		done("create 0 /a-"),
		done("create 0 /b/z"),
		done("mkdir 0 /b/y"),
		done("create 0 /b/y/~"),
		done("create 0 /b/y!"),
		done("create 0 /B"),
		done("create 0 /10"),
		done("create 0 /9"),
		gives("write 0 /b/z 12 end", 3, ""),
		gives("fill 0 /9 0 11 9", 11, ""),
		gives("sync", 2, ""),
	)
	wantTree(t, "many names", disk, 0,
		fileAt("/10", ""),
		fileAt("/9", "99999999999"),
		fileAt("/B", ""),
		dirAt("/a"),
		fileAt("/a-", ""),
		dirAt("/b"),
		dirAt("/b/y"),
		fileAt("/b/y/~", ""),
		fileAt("/b/y!", ""),
		fileAt("/b/z", strings.Repeat("\x00", 12)+"end"),
		fileAt("/b!", ""),
		fileAt("/b0", ""),
	)
}

func TestReadersOfNoVolume(t *testing.T) {
	good := fresh(t, 512)
	for _, length := range []int{0, 1, 128, 7 * 128, 8*128 - 1, 8*128 + 1, 512*128 - 1, 512*128 + 1, 513 * 128} {
		image := append(bytes.Clone(good), make([]byte, 512)...)[:length]
		for _, tree := range []int64{0, 1, -1} {
			wantUnread(t, "no image", image, tree, impl.ErrDevice, impl.ErrDevice)
		}
	}
	wantUnread(t, "nil", nil, 0, impl.ErrDevice, impl.ErrDevice)
	for what, image := range map[string][]byte{
		"zeros":                     make([]byte, 64*128),
		"both slots blank":          without(oldVolume(t, 64), 0, 1),
		"no file tree, slots blank": without(noFiles(t), 0, 1),
		"a block cut off":           good[:511*128],
	} {
		for _, tree := range []int64{0, 1, -1} {
			wantUnread(t, what, image, tree, impl.ErrCorrupt, impl.ErrCorrupt)
		}
	}
}

func TestReadersOfNoTree(t *testing.T) {
	disk := toldDisk(t, fresh(t, 64), gives("clone 0", 1, ""), gives("clone 1", 2, ""), done("create 2 /a"), gives("drop 1", 0, ""), gives("sync", 2, ""), gives("clone 0", 3, ""))
	for _, tree := range []int64{-1, 1, 3, 4, 15, 16, 65534, 65535, 65536, 1 << 16, 1<<32 + 2, math.MaxInt64, math.MinInt64} {
		wantUnread(t, "a tree that is not live", disk, tree, impl.ErrNoTree, impl.OK)
		wantUnread(t, "a tree that is not live beside one that is no file tree", noFiles(t), tree, impl.ErrNoTree, impl.ErrForm)
	}
	wantTree(t, "the last one", disk, 2, fileAt("/a", ""))
	// The generation from before lies in the other slot still.
	wantUnread(t, "the generation before", without(disk, 0), 2, impl.ErrNoTree, impl.OK)
	wantTree(t, "the generation before a bad one", without(noFiles(t), 0), 0)
}

// The good trees of a volume are read, all of them at once are not.
func TestReadersBesideBadTrees(t *testing.T) {
	trees := []int64{0, 1, 3, 4}
	good := someFiles()
	ops := []impl.TreeOp{clone(0), clone(0), clone(0), clone(0), drop(2)}
	for _, tree := range trees {
		ops = append(ops, itemOps(tree, good.items())...)
	}
	disk := after(t, fresh(t, 256), ops...)
	want := plainTreeOf(good.items()).walk()
	for _, bad := range trees {
		spoilt := after(t, disk, del(bad, key(5, 1, "")))
		for _, tree := range trees {
			if tree == bad {
				wantUnread(t, "the bad tree", spoilt, tree, impl.ErrForm, impl.ErrForm)
			} else {
				wantTree(t, "a good tree", spoilt, tree, want...)
			}
		}
		wantUnread(t, "no tree", spoilt, 2, impl.ErrNoTree, impl.ErrForm)
	}
	allBad := disk
	for _, bad := range trees {
		allBad = after(t, allBad, del(bad, key(5, 1, "")))
	}
	for _, tree := range trees {
		wantUnread(t, "all trees bad", allBad, tree, impl.ErrForm, impl.ErrForm)
	}
	wantReadAs(t, "all good", disk, plainTrees{0: plainTreeOf(good.items()), 1: plainTreeOf(good.items()), 3: plainTreeOf(good.items()), 4: plainTreeOf(good.items())})
}

func TestReadersByTheRulesOfFileTrees(t *testing.T) {
	for what, change := range soundFileTrees() {
		l := someFiles().with(change)
		wantReadAs(t, what, l.volume(t, 2), plainTrees{0: {}, 1: plainTreeOf(l.items())})
	}
	for _, faults := range []map[string]func(l loose){badForms(), badLinks()} {
		for what, change := range faults {
			disk := someFiles().with(change).volume(t, 2)
			wantUnread(t, what, disk, 1, impl.ErrForm, impl.ErrForm)
			wantTree(t, what, disk, 0)
		}
	}
}

// Deeper than any path can tell: by another hand, and by renames.
func TestReadersOfDeepTrees(t *testing.T) {
	ops := []impl.TreeOp{}
	var want []impl.File
	for ino := int64(2); ino < 302; ino++ {
		ops = append(ops, put(0, key(ino, 1, ""), "\x02"), put(0, key(ino-1, 2, "n"), two(ino)))
		want = append(want, dirAt(strings.Repeat("/n", int(ino)-1)))
	}
	wantTree(t, "a long chain", after(t, fresh(t, 512), ops...), 0, want...)
	lines := []told{}
	for depth := 1; depth <= 16; depth++ {
		lines = append(lines, done("mkdir 0 "+deepPath(depth, "abcdefgh")))
	}
	lines = append(lines, done("mkdir 0 /x"), done("rename 0 /abcdefgh /x/y"), done("create 0 /x/z"), gives("sync", 2, ""))
	want = []impl.File{dirAt("/x"), dirAt("/x/y")}
	for depth := 1; depth < 16; depth++ {
		want = append(want, dirAt("/x/y"+deepPath(depth, "abcdefgh")))
	}
	wantTree(t, "moved down", toldDisk(t, fresh(t, 128), lines...), 0, append(want, fileAt("/x/z", ""))...)
}

// wantLinesTell asks read and list lines for all that a reader told.
func wantLinesTell(t *testing.T, disk []byte, view impl.TreeView) int {
	t.Helper()
	tree := strconv.FormatInt(view.Tree, 10)
	entries := map[string][]string{"/": nil}
	for _, f := range view.Files {
		dir, name := cutPath(f.Path)
		if f.Kind == impl.DirKind {
			entries[f.Path] = nil
			name += "/"
		}
		entries[dir] = append(entries[dir], name)
	}
	var lines []told
	for _, f := range view.Files {
		if _, code := impl.SplitPath(f.Path); code == impl.OK && f.Kind == impl.FileKind {
			lines = append(lines, gives("read "+tree+" "+f.Path+" 0 1000", f.Size, f.Data))
		}
	}
	for dir, names := range entries {
		if _, code := impl.SplitPath(dir); code == impl.OK {
			lines = append(lines, gives("list "+tree+" "+dir, int64(len(names)), strings.Join(names, " ")))
		}
	}
	wantTold(t, disk, lines...)
	return len(lines)
}

func TestReadersAndLinesAgree(t *testing.T) {
	r := rand.New(rand.NewSource(40))
	looked := 0
	for _, blocks := range []int64{12, 40, 128, 512} {
		for _, m := range historyTempers() {
			disk := fresh(t, blocks)
			w := &scribe{r: r, s: newPlainScript(disk), temper: m}
			lines := append(w.written(t, m.what, 300), told{"sync", w.s.answer(impl.Command{Op: impl.CmdSync})})
			disk = toldDisk(t, disk, lines...)
			wantReadAs(t, m.what, disk, w.s.trees)
			views, _ := impl.ReadAll(disk)
			for _, view := range views {
				looked += wantLinesTell(t, disk, view)
			}
		}
	}
	if looked < 500 {
		t.Errorf("only %d lines were asked", looked)
	}
	wantLinesTell(t, someFiles().volume(t, 1), impl.TreeView{Files: plainTreeOf(someFiles().items()).walk()})
}

// sixteenTrees differ in one file each; with a bad one among them when it is asked for.
func sixteenTrees(t *testing.T, bad int64) []byte {
	t.Helper()
	ops := itemOps(0, someFiles().items())
	for tree := int64(1); tree < 16; tree++ {
		ops = append(ops, clone(tree-1), put(tree, key(1, 2, "n"+strconv.FormatInt(tree, 10)), two(1000+tree)), put(tree, key(1000+tree, 1, ""), "\x02"))
	}
	if bad >= 0 {
		ops = append(ops, put(bad, "stray", ""))
	}
	return after(t, fresh(t, 512), ops...)
}

func sameViews(a, b []impl.TreeView) bool {
	return slices.EqualFunc(a, b, func(x, y impl.TreeView) bool { return x.Tree == y.Tree && sameFiles(x.Files, y.Files) })
}

func TestSameReadingInManyRuns(t *testing.T) {
	disk := sixteenTrees(t, -1)
	var want []impl.TreeView
	for tree := range int64(16) {
		files, code := impl.ReadTree(disk, tree)
		if code != impl.OK || len(files) != 5+int(tree) {
			t.Fatalf("tree %d: code %d, %d files", tree, code, len(files))
		}
		want = append(want, impl.TreeView{Tree: tree, Files: files})
	}
	before := runtime.GOMAXPROCS(0)
	defer runtime.GOMAXPROCS(before)
	for run := range 60 {
		runtime.GOMAXPROCS(1 + run%before)
		if views, code := impl.ReadAll(disk); code != impl.OK || !sameViews(views, want) {
			t.Fatalf("run %d: code %d, %d trees, or other files", run, code, len(views))
		}
	}
	for bad := range int64(16) {
		spoilt := sixteenTrees(t, bad)
		for run := range 10 {
			runtime.GOMAXPROCS(1 + run%before)
			if views, code := impl.ReadAll(spoilt); code != impl.ErrForm || len(views) != 0 {
				t.Fatalf("tree %d is bad, run %d: code %d, %d trees", bad, run, code, len(views))
			}
		}
	}
}

func TestNoReaderIsLeftBehind(t *testing.T) {
	good, bad := sixteenTrees(t, -1), sixteenTrees(t, 7)
	before := runtime.NumGoroutine()
	for range 20 {
		impl.ReadAll(good)
		impl.ReadAll(bad)
		impl.ReadAll(nil)
	}
	for range 200 {
		if runtime.NumGoroutine() <= before {
			return
		}
		time.Sleep(10 * time.Millisecond)
	}
	t.Errorf("%d goroutines, before the calls %d", runtime.NumGoroutine(), before)
}

func TestReadersShareNothing(t *testing.T) {
	disk := sixteenTrees(t, -1)
	long := append(bytes.Clone(disk), disk...)
	before := bytes.Clone(long)
	views, code := impl.ReadAll(long[:len(disk)])
	wantCode(t, "ReadAll", code, impl.OK)
	files, code := impl.ReadTree(long[:len(disk)], 9)
	wantCode(t, "ReadTree", code, impl.OK)
	want := slices.Clone(files)
	for i := range views {
		clear(views[i].Files[:cap(views[i].Files)])
		for j, view := range views[i+1:] {
			if len(view.Files) == 0 || view.Files[0].Path == "" {
				t.Fatalf("the lists of trees %d and %d share memory", i, i+1+j)
			}
		}
	}
	if !sameFiles(files, want) {
		t.Errorf("two answers share memory")
	}
	clear(files[:cap(files)])
	clear(views[:cap(views)])
	if !bytes.Equal(long, before) {
		t.Errorf("the image was written into")
	}
	wantTree(t, "a second time", disk, 9, want...)
	// What is told stays as it is when the image changes.
	files, _ = impl.ReadTree(disk, 9)
	turnBytes(disk)
	if !sameFiles(files, want) {
		t.Errorf("a change of the image changed the answer")
	}
}
