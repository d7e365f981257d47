package tests

import (
	"bytes"
	"fmt"
	"slices"
	"strconv"
	"strings"
	"testing"

	"loop.example/s01595/impl"
)

func TestSyncs(t *testing.T) {
	disk := toldDisk(t, fresh(t, 64),
		gives("sync", 2, ""),
		gives("space", 60, "1 1 2"),
		gives("sync", 3, ""),
		gives("sync", 4, ""),
		gives("space", 60, "1 1 4"),
		done("create 0 /a"),
		gives("space", 59, "1 2 4"),
		gives("sync", 5, ""),
		gives("space", 60, "1 1 5"),
		fails("create 0 /a", impl.ErrExist),
		fails("sync 0", impl.ErrSyntax),
		gives("sync", 6, ""),
		gives("list 0 /", 1, "a"),
		gives("space", 60, "1 1 6"),
	)
	wantTold(t, disk, gives("space", 60, "1 1 6"), gives("list 0 /", 1, "a"))
	wantSettled(t, "syncs", disk, newPlainScript(disk).saved)
}

// The disk is that of the last sync, to the byte.
func TestDiskIsThatOfTheLastSync(t *testing.T) {
	disk := fresh(t, 64)
	lines := []told{done("create 0 /a"), gives("clone 0", 1, ""), gives("write 1 /a 0 text", 4, ""), gives("sync", 2, "")}
	behind := []told{done("create 0 /lost"), gives("clone 0", 2, ""), gives("drop 1", 1, ""), gives("list 0 /", 2, "a lost")}
	synced := toldDisk(t, disk, lines...)
	if bytes.Equal(synced, disk) {
		t.Errorf("a sync leaves the disk as it was")
	}
	if !bytes.Equal(toldDisk(t, disk, append(lines, behind...)...), synced) {
		t.Errorf("what lies behind the last sync is on the disk")
	}
	wantTold(t, disk, lines[:3]...)
	_, steps, _ := impl.VolumeRun(disk, []impl.TreeOp{put(0, key(2, 1, ""), "\x01\x00\x00"), put(0, key(1, 2, "a"), two(2)), clone(0), put(1, piece(2, 0), "text"), put(1, key(2, 1, ""), "\x01\x04\x00")})
	if !bytes.Equal(synced, applied(t, disk, steps)) {
		t.Errorf("the disk is not the one that the steps of the same operations leave")
	}
	wantTold(t, synced, gives("read 1 /a 0 9", 4, "text"), gives("read 0 /a 0 9", 0, ""), fails("list 2 /", impl.ErrNoTree), gives("list 0 /", 1, "a"))
}

func TestSyncAfterRefusedLines(t *testing.T) {
	disk := fresh(t, 8)
	plain := toldDisk(t, disk, done("create 0 /a"), done("create 0 /b"), gives("sync", 2, ""))
	left := toldDisk(t, disk,
		done("create 0 /a"),
		done("create 0 /b"),
		fails("create 0 /c", impl.ErrNoSpace),
		fails("fill 0 /a 0 1000 x", impl.ErrNoSpace),
		fails("create 0 /b", impl.ErrExist),
		fails("nonsense", impl.ErrSyntax),
		gives("sync", 2, ""),
	)
	if !bytes.Equal(plain, left) {
		t.Errorf("refused lines are to be seen on the disk")
	}
}

func TestSyncAtTheGreatestGeneration(t *testing.T) {
	const last = impl.MaxGeneration
	lastText := strconv.Itoa(last)
	start := fewTrees(32, last-2, 3, 0).drawn()
	disk := toldDisk(t, start,
		gives("sync", last-1, ""),
		done("create 0 /a"),
		gives("sync", last, ""),
		gives("space", 28, "1 1 "+lastText),
		done("create 0 /b"),
		fails("sync", impl.ErrLimit),
		gives("list 0 /", 2, "a b"),
		gives("clone 0", 3, ""),
		fails("sync", impl.ErrLimit),
		gives("list 3 /", 2, "a b"),
		gives("space", 27, "1 2 "+lastText),
	)
	if v, code := impl.Mount(disk); code != impl.OK || v.Generation != last || v.Slot != 0 || v.Next != 3 {
		t.Errorf("code %d, %+v", code, v)
	}
	// A crash begins no step, whatever it says, and takes what was not committed.
	for _, crash := range []string{"crash 0 -", "crash 1 1", "crash 4 1111", "crash 999999 " + strings.Repeat("1", 200)} {
		wantTold(t, disk,
			gives("list 0 /", 1, "a"),
			done("create 0 /c"),
			gives("clone 0", 3, ""),
			gives(crash, last, ""),
			gives("list 0 /", 1, "a"),
			fails("list 3 /", impl.ErrNoTree),
			gives("space", 28, "1 1 "+lastText),
			gives("clone 0", 3, ""),
			fails("sync", impl.ErrLimit),
		)
	}
	beforeLast := toldDisk(t, start, gives("sync", last-1, ""), done("create 0 /a"), gives("crash 999999 -", last, ""), gives("list 0 /", 1, "a"), fails("sync", impl.ErrLimit))
	if !bytes.Equal(beforeLast, disk) {
		t.Errorf("a whole sync by a crash line leaves another disk")
	}
}

// noRoom is a volume by another hand without a free block: three trees of a leaf each, and more table than it needs.
func noRoom() *sketch {
	s := fewTrees(8, 6, 4, 0, 1, 2)
	s.nodes[2] = leafOf(plainTree{"/f": {ino: 2, bytes: []byte("abc"), stored: map[int64]int{0: 3}}}.items())
	s.chain = []int64{3, 6, 7}
	return s
}

func TestSyncWithoutRoom(t *testing.T) {
	disk := noRoom().drawn()
	wantTold(t, disk,
		gives("space", 0, "3 3 6"),
		fails("sync", impl.ErrNoSpace),
		fails("create 1 /a", impl.ErrNoSpace),
		gives("clone 0", 4, ""),
		// What is dropped is pinned, not free.
		gives("drop 2", 1, ""),
		gives("space", 0, "2 4 6"),
		fails("sync", impl.ErrNoSpace),
		gives("read 4 /f 0 9", 3, "abc"),
		gives("crash 7 1111111", 6, ""),
		fails("read 4 /f 0 9", impl.ErrNoTree),
		gives("list 2 /", 0, ""),
		gives("clone 2", 4, ""),
		gives("space", 0, "3 3 6"),
		fails("sync", impl.ErrNoSpace),
	)
	// With one block a sync finds room, and makes more of it.
	s := noRoom()
	s.chain = s.chain[:2]
	toldDisk(t, s.drawn(),
		gives("space", 1, "3 2 6"),
		gives("drop 2", 1, ""),
		gives("sync", 7, ""),
		gives("space", 3, "2 1 7"),
		done("create 1 /a"),
		gives("sync", 8, ""),
		gives("list 1 /", 1, "a"),
	)
}

// crashCase is a volume and lines behind which it may crash in the midst of a sync.
type crashCase struct {
	what  string
	disk  []byte
	lines []told
	trees int
}

func crashCases(t *testing.T) []crashCase {
	start := []told{done("mkdir 0 /d"), done("create 0 /d/f"), gives("write 0 /d/f 0 old", 3, ""), gives("clone 0", 1, "")}
	synced := toldDisk(t, fresh(t, 64), append(start, gives("sync", 2, ""))...)
	return []crashCase{
		{"a fresh volume, nothing to write", fresh(t, 8), nil, 1},
		{"a fresh volume, one file", fresh(t, 8), []told{done("create 0 /a")}, 1},
		{"a fresh volume, clones", fresh(t, 64), start, 2},
		{"a synced volume, nothing to write", synced, nil, 2},
		{"a change of the clone", synced, []told{gives("write 1 /d/f 0 new", 3, ""), done("create 1 /a")}, 2},
		{"a change of both", synced, []told{gives("write 1 /d/f 0 new", 3, ""), gives("write 0 /d/f 3 er", 2, "")}, 2},
		{"a drop", synced, []told{gives("drop 0", 0, "")}, 1},
		{"a clone", synced, []told{gives("clone 1", 2, ""), done("unlink 2 /d/f")}, 3},
		{"behind another crash", toldDisk(t, synced, done("create 0 /x"), gives("crash 1 1", 2, "")), []told{done("create 0 /y")}, 2},
	}
}

// masksOf are all of that many writes, and some that are too short or too long.
func masksOf(writes int) []string {
	masks := []string{"-", "1", "0", strings.Repeat("1", 200), strings.Repeat("0", 200)}
	for survived := range 1 << writes {
		mask := ""
		for i := range writes {
			mask += strconv.Itoa(survived >> i & 1)
		}
		if mask != "" {
			masks = append(masks, mask, mask+"01")
		}
	}
	return masks
}

// wantCrash runs the lines and a crash, and holds what is behind it against Mount and ReadAll of the disk.
func wantCrash(t *testing.T, c crashCase, count int64, mask string) (generation int64) {
	t.Helper()
	line := fmt.Sprintf("crash %d %s", count, mask)
	what := c.what + ", " + line
	s := newPlainScript(c.disk)
	for _, l := range c.lines {
		command, _ := impl.ParseLine(l.line)
		s.answer(command)
	}
	command, _ := impl.ParseLine(line)
	want := s.answer(command)
	space := s.answer(impl.Command{Op: impl.CmdSpace})
	left := toldDisk(t, c.disk, append(slices.Clone(c.lines), told{line, want}, told{"space", space})...)
	if !bytes.Equal(left, s.disk) {
		t.Errorf("%s: another disk is left", what)
	}
	v, code := impl.Mount(left)
	if code != impl.OK || v.Generation != want.Value || v.Free != space.Value {
		t.Errorf("%s answers %+v and then %+v, but the disk mounts as %+v (code %d)", what, want, space, v, code)
	}
	wantReadAs(t, what, left, s.saved)
	return want.Value
}

func TestEveryCrash(t *testing.T) {
	for _, c := range crashCases(t) {
		old, _ := impl.Mount(c.disk)
		steps := newPlainScript(c.disk).stepsAfter(c.lines)
		if len(steps) < 4 || len(steps) > 9 {
			t.Fatalf("%s: %d steps", c.what, len(steps))
		}
		writes := len(steps) - 3
		for count := range len(steps) + 3 {
			for _, mask := range masksOf(min(count, writes)) {
				found := wantCrash(t, c, int64(count), mask)
				landed := count >= len(steps) || count == len(steps)-1 && mask[0] == '1'
				if landed != (found == old.Generation+1) || !landed && found != old.Generation {
					t.Errorf("%s: a crash after %d of %d steps, %s, finds generation %d, before it was %d", c.what, count, len(steps), mask, found, old.Generation)
				}
			}
		}
		if wantCrash(t, c, 999999, "-") != old.Generation+1 {
			t.Errorf("%s: all steps, and yet no new generation", c.what)
		}
	}
}

// stepsAfter is what a sync would do behind these lines.
func (s *plainScript) stepsAfter(lines []told) []impl.Step {
	for _, l := range lines {
		command, _ := impl.ParseLine(l.line)
		s.answer(command)
	}
	return s.forest.commitSteps()
}

// A crash line in which all is carried out leaves what a sync leaves; one that begins nothing leaves what was.
func TestWholeCrashIsSync(t *testing.T) {
	for _, c := range crashCases(t) {
		old, _ := impl.Mount(c.disk)
		steps := newPlainScript(c.disk).stepsAfter(c.lines)
		synced := toldDisk(t, c.disk, append(slices.Clone(c.lines), gives("sync", old.Generation+1, ""))...)
		for _, count := range []int{len(steps), len(steps) + 1, 999999} {
			line := fmt.Sprintf("crash %d 0", count)
			left := toldDisk(t, c.disk, append(slices.Clone(c.lines), gives(line, old.Generation+1, ""))...)
			if !bytes.Equal(left, synced) {
				t.Errorf("%s: %s leaves another disk than a sync", c.what, line)
			}
		}
		for _, line := range []string{"crash 0 -", "crash 0 1111", "crash 1 -", "crash 1 0", "crash 1 01"} {
			wantTold(t, c.disk, append(slices.Clone(c.lines), gives(line, old.Generation, ""))...)
		}
		if views, code := impl.ReadAll(synced); code != impl.OK || len(views) != c.trees {
			t.Errorf("%s: %d trees, code %d", c.what, len(views), code)
		}
	}
}

func TestLinesBehindCrashes(t *testing.T) {
	disk := toldDisk(t, fresh(t, 64),
		done("create 0 /a"),
		gives("sync", 2, ""),
		gives("space", 60, "1 1 2"),
		done("create 0 /b"),
		gives("clone 0", 1, ""),
		gives("space", 59, "1 2 2"),
		gives("crash 0 -", 2, ""),
		gives("space", 60, "1 1 2"),
		gives("list 0 /", 1, "a"),
		fails("list 1 /", impl.ErrNoTree),
		// Two on end.
		gives("crash 0 -", 2, ""),
		gives("crash 1 1", 2, ""),
		gives("crash 9 -", 3, ""),
		gives("crash 9 -", 4, ""),
		gives("space", 60, "1 1 4"),
		// A number that a crash took back is handed out again.
		gives("clone 0", 1, ""),
		done("create 1 /b"),
		gives("crash 4 1", 5, ""),
		gives("list 1 /", 2, "a b"),
		gives("list 0 /", 1, "a"),
		gives("drop 0", 1, ""),
		gives("crash 3 0", 5, ""),
		gives("list 0 /", 1, "a"),
		gives("drop 0", 1, ""),
		gives("crash 3 1", 6, ""),
		fails("list 0 /", impl.ErrNoTree),
		fails("drop 1", impl.ErrLast),
		fails("crash", impl.ErrSyntax),
		fails("crash 0", impl.ErrSyntax),
		fails("crash 0 2", impl.ErrSyntax),
		fails("crash 0 1-", impl.ErrSyntax),
		fails("crash 00 1", impl.ErrSyntax),
		fails("crash - 1", impl.ErrSyntax),
		done("mkdir 1 /d"),
		gives("sync", 7, ""),
		gives("crash 0 -", 7, ""),
		gives("list 1 /", 3, "a b d/"),
	)
	wantTold(t, disk, gives("list 1 /", 3, "a b d/"))
}

// More writes wait than a mask has bytes: those beyond it are lost.
func TestMaskShorterThanTheCache(t *testing.T) {
	c := crashCase{what: "a long file", disk: fresh(t, 512)}
	for at := range 8 {
		path := "/" + strconv.Itoa(at)
		c.lines = append(c.lines, done("create 0 "+path), gives("fill 0 "+path+" 0 1000 x", 1000, ""))
	}
	steps := newPlainScript(c.disk).stepsAfter(c.lines)
	if len(steps) < 220 {
		t.Fatalf("%d steps", len(steps))
	}
	for _, count := range []int{1, 9, 201, len(steps) - 2, len(steps) - 1} {
		for _, mask := range []string{"-", strings.Repeat("1", 200), strings.Repeat("10", 100), strings.Repeat("0", 199) + "1", "00000001", "000000001"} {
			wantCrash(t, c, int64(count), mask)
		}
	}
}

// sleeper is a volume of generation 6 with a later one beside it that wants for just one block: the next root that is written in the first. other is a tree of the later one.
func sleeper(generation int64, other impl.Node) []byte {
	later := fewTrees(16, generation, 9, 0, 1)
	later.super.Roots = []impl.Root{{Tree: 0, Block: 4}, {Tree: 1, Block: 9}}
	later.nodes = map[int64]impl.Node{4: leaf(), 9: other}
	later.chain = []int64{10}
	disk := later.drawn()
	clear(rawAt(disk, 4))
	return fewTrees(16, 6, 1, 0).draw(disk)
}

func TestCrashThatWakesAnotherVolume(t *testing.T) {
	files := plainTree{"/g": {ino: 2, dir: true}}
	for _, generation := range []int64{7, 9, 1<<40 - 1} {
		disk := toldDisk(t, sleeper(generation, leafOf(files.items())),
			gives("space", 12, "1 1 6"),
			done("create 0 /f"),
			fails("list 1 /", impl.ErrNoTree),
			gives("crash 1 0", 6, ""),
			gives("list 0 /", 0, ""),
			done("create 0 /f"),
			gives("crash 1 1", generation, ""),
			gives("list 0 /", 1, "f"),
			gives("list 1 /", 1, "g/"),
			gives("space", 11, "2 1 "+strconv.FormatInt(generation, 10)),
			gives("clone 1", 9, ""),
			gives("sync", generation+1, ""),
		)
		if v, code := impl.Mount(disk); code != impl.OK || v.Generation != generation+1 || v.Next != 10 {
			t.Errorf("code %d, %+v", code, v)
		}
	}
	// An earlier one is not found, though it is sound by now.
	toldDisk(t, sleeper(5, leafOf(files.items())), done("create 0 /f"), gives("crash 1 1", 6, ""), gives("list 0 /", 0, ""))
	// A sync puts its superblock over the other one's.
	toldDisk(t, sleeper(9, leafOf(files.items())), done("create 0 /f"), gives("sync", 7, ""), gives("crash 0 -", 7, ""), gives("list 0 /", 1, "f"), fails("list 1 /", impl.ErrNoTree))
}

func TestDeadVolume(t *testing.T) {
	for _, other := range []impl.Node{leaf(item("stray", "")), leaf(item(key(2, 1, ""), "\x02"))} {
		start := sleeper(7, other)
		lines := []told{done("create 0 /f"), gives("crash 1 0", 6, ""), done("create 0 /f"), fails("crash 1 1", impl.ErrForm)}
		disk := toldDisk(t, start, lines...)
		for _, line := range []string{
			"space", "sync", "list 0 /", "read 0 /f 0 9", "create 0 /g", "clone 0", "drop 1", "crash 0 -", "crash 999999 1", "unlink 0 /", "list 9 x",
			"nonsense", "sync ", " ", "\x00", "create 00 /a", "crash 1", strings.Repeat("x", impl.MaxLine+1), strings.Repeat("é", 700),
		} {
			lines = append(lines, fails(line, impl.ErrForm))
		}
		left := toldDisk(t, start, lines...)
		if !bytes.Equal(left, disk) {
			t.Errorf("lines on a dead volume change the disk")
		}
		_, steps, _ := impl.VolumeRun(start, []impl.TreeOp{put(0, key(2, 1, ""), "\x01\x00\x00"), put(0, key(1, 2, "f"), two(2))})
		if !bytes.Equal(left, carriedOut(start, steps[:1], func(int) bool { return true })) {
			t.Errorf("the disk of a dead volume is not the one that the crash left")
		}
		wantWhole(t, "a dead volume", left, "space", impl.ErrForm)
		if _, code := impl.ReadTree(left, 0); code != impl.OK {
			t.Errorf("the good tree of a dead volume: code %d", code)
		}
	}
}

func TestCrashesShareNothing(t *testing.T) {
	disk := fresh(t, 64)
	long := append(bytes.Clone(disk), disk...)
	before := bytes.Clone(long)
	for _, script := range []string{"create 0 /a\nsync\ncreate 0 /b\ncrash 1 1\nclone 0\nsync\n", "crash 0 -\n", "crash 1 1\n", "crash 9 -\n", "sync\n", "clone 0\ndrop 0\nsync\n"} {
		out := impl.RunScript(long[:len(disk)], script)
		wantCode(t, "RunScript", out.Code, impl.OK)
		want := impl.Outcome{Answers: slices.Clone(out.Answers), Disk: bytes.Clone(out.Disk)}
		turnBytes(out.Disk)
		clear(out.Answers[:cap(out.Answers)])
		if !bytes.Equal(long, before) {
			t.Fatalf("%q: the image was written into", script)
		}
		if !sameOutcome(impl.RunScript(disk, script), want) {
			t.Errorf("%q: a second run answers otherwise", script)
		}
	}
}
