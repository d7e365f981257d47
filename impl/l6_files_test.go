package impl

import (
	"slices"
	"strconv"
	"strings"
	"testing"
)

// What stands here looks at the items that lines leave, which no line tells.

// wantItems runs lines that must all be made on a fresh volume, each leaving a file tree. Items are told as keys and values in turns, in rising order.
func wantItems(t *testing.T, lines []string, want ...string) {
	t.Helper()
	v := &runningVolume{forest: freshForest(512)}
	verbs := v.verbs()
	for _, line := range lines {
		if got := v.answer(verbs, line); got.Code != OK {
			t.Fatalf("%q: code %d", line, got.Code)
		}
		if !isFileTree(fileTree{v.forest, 0}.items()) {
			t.Fatalf("%q leaves no file tree", line)
		}
	}
	var got []string
	for _, item := range (fileTree{v.forest, 0}).items() {
		got = append(got, item.Key, item.Val)
	}
	if !slices.Equal(got, want) {
		t.Errorf("after %q: items %q, want %q", lines, got, want)
	}
}

func TestItemsOfFilesAndDirectories(t *testing.T) {
	wantItems(t, []string{"space", "list 0 /"})
	wantItems(t, []string{"create 0 /a"},
		"\x00\x01\x02a", "\x00\x02",
		"\x00\x02\x01", "\x01\x00\x00",
	)
	wantItems(t, []string{"create 0 /b", "mkdir 0 /dir", "create 0 /dir/x", "mkdir 0 /dir/12345678"},
		"\x00\x01\x02b", "\x00\x02",
		"\x00\x01\x02dir", "\x00\x03",
		"\x00\x02\x01", "\x01\x00\x00",
		"\x00\x03\x01", "\x02",
		"\x00\x03\x0212345678", "\x00\x05",
		"\x00\x03\x02x", "\x00\x04",
		"\x00\x04\x01", "\x01\x00\x00",
		"\x00\x05\x01", "\x02",
	)
}

func TestLeastNumberIsTaken(t *testing.T) {
	wantItems(t, []string{"create 0 /a", "create 0 /b", "create 0 /c", "unlink 0 /b", "unlink 0 /a", "mkdir 0 /d", "create 0 /e", "create 0 /f"},
		"\x00\x01\x02c", "\x00\x04",
		"\x00\x01\x02d", "\x00\x02",
		"\x00\x01\x02e", "\x00\x03",
		"\x00\x01\x02f", "\x00\x05",
		"\x00\x02\x01", "\x02",
		"\x00\x03\x01", "\x01\x00\x00",
		"\x00\x04\x01", "\x01\x00\x00",
		"\x00\x05\x01", "\x01\x00\x00",
	)
}

func TestRenameKeepsTheNumber(t *testing.T) {
	wantItems(t, []string{"mkdir 0 /d", "create 0 /d/f", "mkdir 0 /e", "write 0 /d/f 0 x", "rename 0 /d/f /e/g", "rename 0 /e /d/h"},
		"\x00\x01\x02d", "\x00\x02",
		"\x00\x02\x01", "\x02",
		"\x00\x02\x02h", "\x00\x04",
		"\x00\x03\x01", "\x01\x01\x00",
		"\x00\x03\x03\x00", "x",
		"\x00\x04\x01", "\x02",
		"\x00\x04\x02g", "\x00\x03",
	)
}

func TestUnlinkTakesAllItems(t *testing.T) {
	wantItems(t, []string{"mkdir 0 /d", "create 0 /d/f", "fill 0 /d/f 5 300 x", "unlink 0 /d/f"},
		"\x00\x01\x02d", "\x00\x02",
		"\x00\x02\x01", "\x02",
	)
	wantItems(t, []string{"mkdir 0 /d", "create 0 /f", "fill 0 /f 0 1000 x", "unlink 0 /f", "unlink 0 /d"})
}

// wantPieces tells of one file, number 2, its size and its pieces.
func wantPieces(t *testing.T, lines []string, size string, pieces ...string) {
	t.Helper()
	want := []string{"\x00\x01\x02f", "\x00\x02", "\x00\x02\x01", "\x01" + size}
	wantItems(t, append([]string{"create 0 /f"}, lines...), append(want, pieces...)...)
}

func TestPiecesAreNoLongerThanWritten(t *testing.T) {
	const p0, p1, p2 = "\x00\x02\x03\x00", "\x00\x02\x03\x01", "\x00\x02\x03\x02"
	zeros := strings.Repeat("\x00", 10)
	wantPieces(t, []string{"write 0 /f 0 a"}, "\x01\x00", p0, "a")
	wantPieces(t, []string{"write 0 /f 3 a"}, "\x04\x00", p0, zeros[:3]+"a")
	wantPieces(t, []string{"write 0 /f 8 hello"}, "\x0d\x00", p0, zeros[:8]+"he", p1, "llo")
	wantPieces(t, []string{"write 0 /f 10 hello"}, "\x0f\x00", p1, "hello")
	wantPieces(t, []string{"write 0 /f 9 a"}, "\x0a\x00", p0, zeros[:9]+"a")
	wantPieces(t, []string{"write 0 /f 25 a", "write 0 /f 2 b"}, "\x1a\x00", p0, "\x00\x00b", p2, zeros[:5]+"a")
	wantPieces(t, []string{"write 0 /f 0 abc", "write 0 /f 6 d"}, "\x07\x00", p0, "abc\x00\x00\x00d")
	wantPieces(t, []string{"write 0 /f 0 abcdef", "write 0 /f 1 XY"}, "\x06\x00", p0, "aXYdef")
	wantPieces(t, []string{"write 0 /f 0 abc", "fill 0 /f 3 3 z"}, "\x06\x00", p0, "abczzz")
	wantPieces(t, []string{"fill 0 /f 5 20 q"}, "\x19\x00", p0, zeros[:5]+"qqqqq", p1, "qqqqqqqqqq", p2, "qqqqq")
	wantPieces(t, []string{"fill 0 /f 0 30 q", "write 0 /f 9 ab"}, "\x1e\x00", p0, "qqqqqqqqqa", p1, "bqqqqqqqqq", p2, "qqqqqqqqqq")
	wantPieces(t, []string{"fill 0 /f 0 10 q"}, "\x0a\x00", p0, "qqqqqqqqqq")
	wantPieces(t, []string{"fill 0 /f 0 0 q", "fill 0 /f 700 0 q", "fill 0 /f 1000 0 q"}, "\x00\x00")
	wantPieces(t, []string{"write 0 /f 999 z"}, "\xe8\x03", "\x00\x02\x03\x63", zeros[:9]+"z")
	wantPieces(t, []string{"write 0 /f 255 z"}, "\x00\x01", "\x00\x02\x03\x19", zeros[:5]+"z")
}

func TestNumbersOfTwoBytes(t *testing.T) {
	v := &runningVolume{forest: freshForest(512)}
	verbs := v.verbs()
	for ino := 2; ino <= 260; ino++ {
		if got := v.answer(verbs, "mkdir 0 /"+strconv.Itoa(ino)); got.Code != OK {
			t.Fatalf("directory %d: code %d", ino, got.Code)
		}
	}
	v.answer(verbs, "create 0 /258/f")
	tree := fileTree{v.forest, 0}
	for key, want := range map[string]string{
		"\x01\x02\x01":    "\x02",
		"\x00\x01\x02258": "\x01\x02",
		"\x00\x01\x02255": "\x00\xff",
		"\x00\x01\x02256": "\x01\x00",
		"\x01\x02\x02f":   "\x01\x05",
		"\x01\x05\x01":    "\x01\x00\x00",
	} {
		if got, there := tree.value(key); !there || got != want {
			t.Errorf("key %q: %q, there: %v, want %q", key, got, there, want)
		}
	}
	if got := v.answer(verbs, "list 0 /258"); got != (Answer{Value: 1, Data: "f"}) {
		t.Errorf("the list of directory 258 is %+v", got)
	}
}

// A line that finds no room in its midst leaves the very same forest.
func TestLineWithoutRoomLeavesTheForest(t *testing.T) {
	v := &runningVolume{forest: freshForest(24)}
	verbs := v.verbs()
	for _, line := range []string{"create 0 /f", "fill 0 /f 0 130 a", "mkdir 0 /d"} {
		if got := v.answer(verbs, line); got.Code != OK {
			t.Fatalf("%q: code %d", line, got.Code)
		}
	}
	before := *v.forest
	before.roots, before.cur, before.com = slices.Clone(v.roots), slices.Clone(v.cur), slices.Clone(v.com)
	items := fileTree{v.forest, 0}.items()
	for _, line := range []string{"fill 0 /f 130 870 b", "fill 0 /f 100 900 b"} {
		if got := v.answer(verbs, line); got != (Answer{Code: ErrNoSpace}) {
			t.Errorf("%q: %+v", line, got)
		}
		if !sameForest(v.forest, &before) || !slices.Equal(fileTree{v.forest, 0}.items(), items) {
			t.Errorf("%q changed the forest", line)
		}
	}
}

// No lines lead to a disk that can't be mounted, as a sync leaves the last commit's blocks alone: so the disk is blank here behind the volume's back.
func TestVolumeThatCannotBeMountedAnew(t *testing.T) {
	for _, crash := range []string{"crash 0 -", "crash 1 1", "crash 999 -"} {
		v := &runningVolume{forest: freshForest(8), device: deviceOf(make([]byte, 8*BlockSize))}
		verbs := v.verbs()
		for _, line := range []string{crash, "space", crash, "sync", "list 0 /", "nonsense", strings.Repeat("x", MaxLine+1)} {
			if got := v.answer(verbs, line); got != (Answer{Code: ErrCorrupt}) {
				t.Errorf("%q, %q answers %+v", crash, line, got)
			}
		}
	}
}

// Behind a sync the volume goes on with the very forest that Mount would find, and nothing waits in the cache.
func TestSyncedForestIsTheMountedOne(t *testing.T) {
	v := &runningVolume{device: Device{Blocks: 64, Disk: make([]byte, 64*BlockSize)}}
	v.device.Disk, _ = Mkfs(v.device.Disk)
	v.mount()
	verbs := v.verbs()
	lines := []string{"create 0 /a", "clone 0", "fill 0 /a 0 120 x", "clone 1", "mkdir 2 /d", "unlink 1 /a", "drop 0", "create 1 /b", "rename 2 /a /d/a", "crash 2 11", "drop 1", "fill 2 /d/a 60 9 y"}
	for i, line := range append(lines, lines...) {
		if v.answer(verbs, line); i%2 == 1 {
			v.answer(verbs, "sync")
			found, code := mountForest(v.device.Disk)
			if code != OK || !sameForest(found, v.forest) || len(v.device.Cache) != 0 {
				t.Fatalf("line %d, %q: code %d, or another forest", i, line, code)
			}
			for block, n := range v.nodes {
				if other := found.nodes[block]; other == nil || other.Kind != n.Kind || !slices.Equal(other.Entries, n.Entries) {
					t.Errorf("line %d, %q: block %d has the node %v, on the disk %v", i, line, block, n, other)
				}
			}
		}
	}
}
