package tests

import (
	"bytes"
	"cmp"
	"maps"
	"math/rand"
	"slices"
	"strconv"
	"strings"
	"testing"

	"loop.example/s01595/impl"
)

// textOf writes a command as a line.
func textOf(c impl.Command) string {
	tree, off, length := strconv.FormatInt(c.Tree, 10), strconv.FormatInt(c.Off, 10), strconv.FormatInt(c.Len, 10)
	words := map[int64][]string{
		impl.CmdCreate: {"create", tree, c.Path},
		impl.CmdMkdir:  {"mkdir", tree, c.Path},
		impl.CmdWrite:  {"write", tree, c.Path, off, c.Data},
		impl.CmdFill:   {"fill", tree, c.Path, off, length, c.Data},
		impl.CmdRead:   {"read", tree, c.Path, off, length},
		impl.CmdList:   {"list", tree, c.Path},
		impl.CmdUnlink: {"unlink", tree, c.Path},
		impl.CmdRename: {"rename", tree, c.Path, c.Path2},
		impl.CmdClone:  {"clone", tree},
		impl.CmdDrop:   {"drop", tree},
		impl.CmdSync:   {"sync"},
		impl.CmdSpace:  {"space"},
		impl.CmdCrash:  {"crash", off, cmp.Or(c.Data, "-")},
	}
	return strings.Join(words[c.Op], " ")
}

// temper says how often each command comes, and how long the texts are.
type temper struct {
	what                                                          string
	create, mkdir, write, fill, read, list, unlink, rename, space int
	clone, drop, sync, crash                                      int
	longest                                                       int64
	names                                                         string
}

func (m temper) op(r *rand.Rand) int64 {
	weights := map[int64]int{
		impl.CmdCreate: m.create, impl.CmdMkdir: m.mkdir, impl.CmdWrite: m.write, impl.CmdFill: m.fill, impl.CmdRead: m.read,
		impl.CmdList: m.list, impl.CmdUnlink: m.unlink, impl.CmdRename: m.rename, impl.CmdSpace: m.space,
		impl.CmdClone: m.clone, impl.CmdDrop: m.drop, impl.CmdSync: m.sync, impl.CmdCrash: m.crash,
	}
	var bag []int64
	for _, op := range slices.Sorted(maps.Keys(weights)) {
		bag = append(bag, slices.Repeat([]int64{op}, weights[op])...)
	}
	return bag[r.Intn(len(bag))]
}

// scribe writes a script, and knows from the plain maps what is worth a line.
type scribe struct {
	r *rand.Rand
	s *plainScript
	temper
}

func (w *scribe) name() string {
	at := w.r.Intn(len(w.names))
	return strings.Repeat(w.names[at:at+1], 1+w.r.Intn(2))
}

func (w *scribe) someTree() int64 {
	if w.r.Intn(60) == 0 {
		return w.r.Int63n(20)
	}
	trees := slices.Sorted(maps.Keys(w.s.trees))
	return trees[w.r.Intn(len(trees))]
}

// existing is "/" now and then.
func (w *scribe) existing(tree int64, mayBe func(f *plainFile) bool) string {
	var paths []string
	for path, f := range w.s.trees[tree] {
		if mayBe(f) {
			paths = append(paths, path)
		}
	}
	if len(paths) == 0 || w.r.Intn(20) == 0 {
		return "/"
	}
	slices.Sort(paths)
	return paths[w.r.Intn(len(paths))]
}

func (w *scribe) newPath(tree int64) string {
	dir := w.existing(tree, func(f *plainFile) bool { return f.dir || w.r.Intn(8) == 0 })
	if w.r.Intn(3) == 0 {
		dir = "/"
	}
	return strings.TrimSuffix(dir, "/") + "/" + w.name()
}

func (w *scribe) path(tree, op int64) string {
	switch at := w.r.Intn(40); {
	case at == 0:
		return []string{"x", "//", "/a/", "/123456789", deepPath(17, "a"), "/" + strings.Repeat("b", 200)}[w.r.Intn(6)]
	case at < 4:
		return w.newPath(tree) + "/" + w.name()
	case at < 7:
		return w.newPath(tree)
	}
	switch op {
	case impl.CmdCreate, impl.CmdMkdir:
		return w.newPath(tree)
	case impl.CmdWrite, impl.CmdFill, impl.CmdRead:
		return w.existing(tree, func(f *plainFile) bool { return !f.dir || w.r.Intn(30) == 0 })
	case impl.CmdList:
		return w.existing(tree, func(f *plainFile) bool { return f.dir || w.r.Intn(10) == 0 })
	}
	return w.existing(tree, func(*plainFile) bool { return true })
}

// number likes the edges of pieces.
func (w *scribe) number(most int64) int64 {
	n := w.r.Int63n(most + 1)
	if w.r.Intn(3) == 0 {
		n = n/10*10 + w.r.Int63n(3) - 1
	}
	if w.r.Intn(100) == 0 {
		n = []int64{999, 1000, 1001, 999999}[w.r.Intn(4)]
	}
	return max(0, n)
}

// crash likes the last steps of a sync, where its outcome hangs on one write.
func (w *scribe) crash() impl.Command {
	c := impl.Command{Op: impl.CmdCrash}
	for range w.r.Intn(20) {
		c.Data += string(rune('0' + w.r.Intn(2)))
	}
	c.Len = int64(len(c.Data))
	steps := len(w.s.forest.commitSteps())
	switch w.r.Intn(3) {
	case 0:
		c.Off = w.r.Int63n(int64(steps) + 3)
	case 1:
		c.Off = int64(max(0, steps-w.r.Intn(3)))
	case 2:
		c.Off = []int64{0, 1, 999999}[w.r.Intn(3)]
	}
	return c
}

func (w *scribe) command() impl.Command {
	op := w.op(w.r)
	switch op {
	case impl.CmdSpace, impl.CmdSync:
		return impl.Command{Op: op}
	case impl.CmdClone, impl.CmdDrop:
		return impl.Command{Op: op, Tree: w.someTree()}
	case impl.CmdCrash:
		return w.crash()
	}
	tree := w.someTree()
	c := impl.Command{Op: op, Tree: tree, Path: w.path(tree, op)}
	switch op {
	case impl.CmdRename:
		c.Path2 = w.path(tree, impl.CmdCreate)
		if w.r.Intn(10) == 0 {
			c.Path2 = strings.TrimSuffix(c.Path, "/") + "/" + w.name()
		}
	case impl.CmdWrite:
		text := strings.Repeat("abcdefghijklmnopqrstuvwxyz", 8)
		c.Off = w.number(w.longest)
		c.Data = text[w.r.Intn(26):][:1+w.r.Intn(40)]
		c.Len = int64(len(c.Data))
	case impl.CmdFill:
		c.Off, c.Len, c.Data = w.number(w.longest), w.number(w.longest), string(rune('A'+w.r.Intn(26)))
	case impl.CmdRead:
		c.Off, c.Len = w.number(w.longest), w.number(2*w.longest)
	}
	// A write that ends at the size is the last that leaves it as it is.
	if f := w.s.trees[tree][c.Path]; f != nil && c.Off > 0 && w.r.Intn(5) == 0 {
		c.Off = max(0, int64(len(f.bytes))-c.Len)
	}
	return c
}

// written lets a scribe write a script as long as one may be, or of so many lines. On the way it looks at the promises that speak of refusals.
func (w *scribe) written(t *testing.T, what string, most int) []told {
	t.Helper()
	var lines []told
	size := 0
	for len(lines) < most {
		c := w.command()
		size += len(textOf(c)) + 1
		if size > impl.MaxScript {
			break
		}
		answer := w.s.answer(c)
		if answer.Code == impl.ErrNoSpace && !w.s.mayLackSpace() {
			t.Errorf("%s: line %d, %q, wants for space though the promise holds", what, len(lines), textOf(c))
		}
		if c.Op == impl.CmdSync && answer.Code != impl.OK {
			t.Errorf("%s: line %d, a sync, is refused with code %d", what, len(lines), answer.Code)
		}
		lines = append(lines, told{textOf(c), answer})
	}
	return lines
}

// wantWritten holds the answers to a written script against the plain maps, and the disk that it leaves against the one that the slow forest's steps leave. It counts the codes that came.
func wantWritten(t *testing.T, what string, disk []byte, w *scribe, most int, codes map[int64]int) []byte {
	t.Helper()
	lines := w.written(t, what, most)
	for _, l := range lines {
		codes[l.want.Code]++
	}
	left := toldDisk(t, disk, lines...)
	if !bytes.Equal(left, w.s.disk) {
		t.Errorf("%s: another disk is left", what)
	}
	for _, root := range w.s.forest.roots {
		if !slices.Equal(w.s.forest.items(root.Block), w.s.trees[root.Tree].items()) {
			t.Errorf("%s: the plain maps and the plain forest of tree %d differ", what, root.Tree)
		}
	}
	return left
}

func tempers() []temper {
	return []temper{
		{what: "many small files", create: 8, mkdir: 3, write: 5, fill: 1, read: 3, list: 3, unlink: 3, rename: 3, space: 3, longest: 40, names: "abcdefghijklmnop"},
		{what: "few long files", create: 2, mkdir: 1, write: 8, fill: 4, read: 6, list: 1, unlink: 1, rename: 1, space: 2, longest: 1000, names: "abc"},
		{what: "up and down", create: 6, mkdir: 5, write: 2, fill: 2, read: 1, list: 2, unlink: 9, rename: 4, space: 4, longest: 200, names: "abcde"},
		{what: "deep directories", create: 2, mkdir: 10, write: 1, fill: 1, read: 1, list: 4, unlink: 2, rename: 10, space: 2, longest: 20, names: "abc"},
		{what: "files without text", create: 10, mkdir: 1, unlink: 5, rename: 8, list: 1, space: 10, names: "abcdefghijklmnopqrstuvwxyzABCDEFGHIJ"},
	}
}

func TestScriptsAgainstPlainMaps(t *testing.T) {
	r := rand.New(rand.NewSource(20))
	codes := map[int64]int{}
	dips := 0
	for _, blocks := range []int64{8, 9, 10, 12, 15, 20, 22, 23, 30, 42, 43, 64, 100, 200, 512} {
		for _, m := range tempers() {
			disk := fresh(t, blocks)
			w := &scribe{r: r, s: newPlainScript(disk), temper: m}
			wantWritten(t, m.what+" on "+strconv.FormatInt(blocks, 10)+" blocks", disk, w, 250, codes)
			dips += w.s.dips
		}
	}
	for _, code := range []int64{impl.OK, impl.ErrLimit, impl.ErrNoSpace, impl.ErrNoTree, impl.ErrNotFound, impl.ErrPath, impl.ErrExist, impl.ErrNotDir, impl.ErrIsDir, impl.ErrNotEmpty, impl.ErrInside, impl.ErrRoot} {
		if codes[code] < 20 {
			t.Errorf("code %d came %d times only", code, codes[code])
		}
	}
	if dips == 0 {
		t.Errorf("no line was made that missed the reserve in its midst")
	}
}

func TestLongScripts(t *testing.T) {
	r := rand.New(rand.NewSource(21))
	for _, m := range tempers() {
		disk := fresh(t, 512)
		wantWritten(t, m.what, disk, &scribe{r: r, s: newPlainScript(disk), temper: m}, impl.MaxLines, map[int64]int{})
	}
}

// The volumes have trees that share nodes, all of them committed.
func TestScriptsOnOtherVolumes(t *testing.T) {
	r := rand.New(rand.NewSource(22))
	for _, blocks := range []int64{40, 64, 128, 512} {
		ops := append(itemOps(0, someFiles().items()), clone(0), clone(0), commit(), clone(1))
		ops = append(ops, put(2, key(9, 1, ""), "\x02"), put(2, key(1, 2, "new"), two(9)), drop(0), commit())
		disk := after(t, fresh(t, blocks), ops...)
		for _, m := range tempers() {
			w := &scribe{r: r, s: newPlainScript(disk), temper: m}
			wantWritten(t, m.what+" on clones", disk, w, 150, map[int64]int{})
		}
	}
}

// What is left after a line that found no room is what was there before it.
func TestRefusedLinesLeaveAll(t *testing.T) {
	for _, blocks := range []int64{12, 23, 30, 64} {
		disk := fresh(t, blocks)
		s := newPlainScript(disk)
		var lines []told
		for at := range 40 {
			path := "/f" + strconv.Itoa(at)
			for _, c := range []impl.Command{
				{Op: impl.CmdCreate, Path: path},
				{Op: impl.CmdFill, Path: path, Off: int64(7 * at % 40), Len: int64(60 * at), Data: "x"},
				{Op: impl.CmdRead, Path: path, Len: 999},
				{Op: impl.CmdRename, Path: path, Path2: "/g" + strconv.Itoa(at)},
				{Op: impl.CmdList, Path: "/"},
				{Op: impl.CmdSpace},
			} {
				lines = append(lines, told{textOf(c), s.answer(c)})
			}
		}
		wantTold(t, disk, lines...)
		kept := slices.DeleteFunc(slices.Clone(lines), func(l told) bool { return l.want.Code != impl.OK })
		if len(kept) == len(lines) {
			t.Errorf("%d blocks: no line was refused", blocks)
		}
		wantTold(t, disk, kept...)
	}
}

// A put splits full nodes on its way even where the key is there: so the space tells whether a size was put that had not grown.
func TestSizeIsPutOnlyWhenItGrows(t *testing.T) {
	for others := range 12 {
		for _, size := range []int64{1, 10, 25, 40, 60} {
			disk := fresh(t, 64)
			s := newPlainScript(disk)
			commands := []impl.Command{{Op: impl.CmdCreate, Path: "/f"}}
			for at := range others {
				commands = append(commands, impl.Command{Op: impl.CmdCreate, Path: "/" + strconv.Itoa(at)})
			}
			commands = append(commands, impl.Command{Op: impl.CmdFill, Path: "/f", Len: size, Data: "x"})
			for _, off := range []int64{size - 1, 0, size} {
				commands = append(commands, impl.Command{Op: impl.CmdFill, Path: "/f", Off: off, Len: 1, Data: "y"}, impl.Command{Op: impl.CmdSpace})
			}
			var lines []told
			for _, c := range commands {
				lines = append(lines, told{textOf(c), s.answer(c)})
			}
			wantTold(t, disk, lines...)
		}
	}
}

// A device of this many blocks has room for that many files, by the bound of the promise, and for some more.
func TestRoomForFiles(t *testing.T) {
	for _, blocks := range []int64{8, 22, 23, 64, 128, 512} {
		room := (blocks - 5 - 3*impl.Reserve(blocks)) / 2
		script := ""
		for at := range min(room, 595) {
			script += "create 0 /" + strconv.FormatInt(at, 36) + "\n"
		}
		out := impl.RunScript(fresh(t, blocks), script)
		for at, answer := range out.Answers {
			if answer != (impl.Answer{}) {
				t.Errorf("%d blocks, file %d of %d: %+v", blocks, at, room, answer)
			}
		}
	}
}

func TestNoCallWithLinesPanics(t *testing.T) {
	r := rand.New(rand.NewSource(23))
	words := []string{"create", "mkdir", "write", "fill", "read", "list", "unlink", "rename", "clone", "drop", "sync", "space", "crash", "0", "1", "999999", "/", "/a", "/a/b", "x", "-", "01", "", "\x00", "é", "\n", "\n"}
	disks := [][]byte{fresh(t, 8), fresh(t, 64), someFiles().volume(t, 2), nil, make([]byte, 1024)}
	for range 3000 {
		script := ""
		for range r.Intn(40) {
			script += words[r.Intn(len(words))] + strings.Repeat(" ", r.Intn(8)/2%2)
		}
		disk := disks[r.Intn(len(disks))]
		before := bytes.Clone(disk)
		first, second := impl.RunScript(disk, script), impl.RunScript(disk, script)
		if first.Code != second.Code || !slices.Equal(first.Answers, second.Answers) || !bytes.Equal(first.Disk, second.Disk) || !bytes.Equal(disk, before) {
			t.Errorf("%q: two runs differ", script)
		}
		impl.ParseLine(script)
		impl.SplitPath(script)
	}
}
