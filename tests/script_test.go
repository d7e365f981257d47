package tests

import (
	"bytes"
	"slices"
	"strings"
	"testing"

	"loop.example/s01595/impl"
)

// told is a line with its answer.
type told struct {
	line string
	want impl.Answer
}

func done(line string) told {
	return told{line: line}
}

func gives(line string, value int64, data string) told {
	return told{line, impl.Answer{Value: value, Data: data}}
}

func fails(line string, code int64) told {
	return told{line, impl.Answer{Code: code}}
}

func scriptOf(lines []told) string {
	out := ""
	for _, l := range lines {
		out += l.line + "\n"
	}
	return out
}

// toldDisk runs lines, wants their answers and gives the disk that they leave.
func toldDisk(t *testing.T, disk []byte, lines ...told) []byte {
	t.Helper()
	out := impl.RunScript(disk, scriptOf(lines))
	if out.Code != impl.OK || len(out.Answers) != len(lines) {
		t.Fatalf("code %d, %d answers to %d lines", out.Code, len(out.Answers), len(lines))
	}
	for i, l := range lines {
		if out.Answers[i] != l.want {
			t.Errorf("line %d, %q: %+v, want %+v", i, l.line, out.Answers[i], l.want)
		}
	}
	return out.Disk
}

// wantTold wants that the image stays: none of the lines commits.
func wantTold(t *testing.T, disk []byte, lines ...told) {
	t.Helper()
	if !bytes.Equal(toldDisk(t, disk, lines...), disk) {
		t.Errorf("the disk is another one without a commit")
	}
}

func wantWhole(t *testing.T, what string, disk []byte, script string, want int64) {
	t.Helper()
	out := impl.RunScript(disk, script)
	if out.Code != want || want != impl.OK && (len(out.Answers) != 0 || len(out.Disk) != 0) {
		t.Errorf("%s: code %d, %d answers, a disk of %d bytes, want code %d", what, out.Code, len(out.Answers), len(out.Disk), want)
	}
}

// itemOps has one put for each item.
func itemOps(tree int64, items []impl.Item) []impl.TreeOp {
	out := []impl.TreeOp{}
	for _, i := range items {
		out = append(out, put(tree, i.Key, i.Val))
	}
	return out
}

// noFiles is a volume with a tree that is no file tree.
func noFiles(t *testing.T) []byte {
	return after(t, fresh(t, 32), put(0, "stray", ""))
}

func TestConstantsOfFiles(t *testing.T) {
	commands := []int64{impl.CmdCreate, impl.CmdMkdir, impl.CmdWrite, impl.CmdFill, impl.CmdRead, impl.CmdList, impl.CmdUnlink, impl.CmdRename, impl.CmdClone, impl.CmdDrop, impl.CmdSync, impl.CmdSpace, impl.CmdCrash}
	if !slices.Equal(commands, from(1, 13)) {
		t.Errorf("commands %v", commands)
	}
	rest := []int64{impl.MaxPath, impl.MaxName, impl.MaxDepth, impl.MaxFile, impl.ChunkSize, impl.MaxLine, impl.MaxScript, impl.MaxLines, impl.FileKind, impl.DirKind, impl.RootIno}
	if !slices.Equal(rest, []int64{200, 8, 16, 1000, 10, 1500, 20000, 600, 1, 2, 1}) {
		t.Errorf("bounds and kinds %v", rest)
	}
}

func TestLengthsOfScripts(t *testing.T) {
	disk := fresh(t, 8)
	wantWhole(t, "an empty script", disk, "", impl.OK)
	wantWhole(t, "MaxScript newlines", disk, strings.Repeat("\n", impl.MaxScript), impl.OK)
	wantWhole(t, "one newline more", disk, strings.Repeat("\n", impl.MaxScript+1), impl.ErrLimit)
	wantWhole(t, "one line of MaxScript bytes", disk, strings.Repeat("x", impl.MaxScript), impl.OK)
	wantWhole(t, "one line of a byte more", disk, strings.Repeat("x", impl.MaxScript+1), impl.ErrLimit)
	for _, number := range []int{impl.MaxLines, impl.MaxLines + 1} {
		want := int64(impl.OK)
		if number > impl.MaxLines {
			want = impl.ErrLimit
		}
		wantWhole(t, "lines", disk, strings.Repeat("space\n", number), want)
		wantWhole(t, "lines, the last one open", disk, strings.TrimSuffix(strings.Repeat("space\n", number), "\n"), want)
		wantWhole(t, "lines with empty ones between", disk, strings.Repeat("\n\n\nspace\n\n", number), want)
		wantWhole(t, "lines of nonsense", disk, strings.Repeat("?\n", number), want)
	}
}

func TestEmptyLinesAreLeftOut(t *testing.T) {
	disk := fresh(t, 64)
	want := []impl.Answer{{Value: 60, Data: "1 1 1"}, {}, {Code: impl.ErrSyntax}, {Value: 59, Data: "1 2 1"}}
	for _, script := range []string{
		"space\nmkdir 0 /d\n \nspace",
		"space\nmkdir 0 /d\n \nspace\n",
		"\n\nspace\n\n\nmkdir 0 /d\n \n\nspace\n\n",
		"space\nmkdir 0 /d\n\t\nspace\n",
		"space\nmkdir 0 /d\nspace\r\nspace\n",
	} {
		out := impl.RunScript(disk, script)
		if out.Code != impl.OK || !slices.Equal(out.Answers, want) || !bytes.Equal(out.Disk, disk) {
			t.Errorf("%q: code %d, answers %+v", script, out.Code, out.Answers)
		}
	}
	out := impl.RunScript(disk, "\n\n")
	if out.Code != impl.OK || len(out.Answers) != 0 || !bytes.Equal(out.Disk, disk) {
		t.Errorf("a script of empty lines: %+v", out)
	}
}

func TestOrderOfErrorsOfTheWhole(t *testing.T) {
	long, many := strings.Repeat("x", impl.MaxScript+1), strings.Repeat("x\n", impl.MaxLines+1)
	zeros := make([]byte, 64*impl.BlockSize)
	for _, disk := range [][]byte{nil, zeros[:100], zeros, noFiles(t), fresh(t, 8)} {
		wantWhole(t, "a script that is too long", disk, long, impl.ErrLimit)
		wantWhole(t, "too many lines", disk, many, impl.ErrLimit)
	}
	for _, script := range []string{"", "space", "?\n?"} {
		for _, length := range []int{0, 1, 7 * 128, 8*128 - 1, 8*128 + 1, 512*128 + 1, 513 * 128} {
			wantWhole(t, "no image", make([]byte, length), script, impl.ErrDevice)
		}
		wantWhole(t, "an image of zeros", zeros, script, impl.ErrCorrupt)
		wantWhole(t, "both slots blank", without(noFiles(t), 0, 1), script, impl.ErrCorrupt)
		wantWhole(t, "no file tree", noFiles(t), script, impl.ErrForm)
		wantWhole(t, "the generation before it", without(noFiles(t), 0), script, impl.OK)
	}
}

func TestCreateAndMkdir(t *testing.T) {
	wantTold(t, fresh(t, 64),
		fails("create 0 /", impl.ErrExist),
		fails("mkdir 0 /", impl.ErrExist),
		done("create 0 /f"),
		done("mkdir 0 /d"),
		fails("create 0 /f", impl.ErrExist),
		fails("mkdir 0 /f", impl.ErrExist),
		fails("create 0 /d", impl.ErrExist),
		fails("mkdir 0 /d", impl.ErrExist),
		fails("create 0 /f/x", impl.ErrNotDir),
		fails("mkdir 0 /f/x/y", impl.ErrNotDir),
		fails("create 0 /n/x", impl.ErrNotFound),
		fails("mkdir 0 /d/n/x", impl.ErrNotFound),
		fails("create 0 /d/n/x/y", impl.ErrNotFound),
		done("create 0 /d/f"),
		fails("create 0 /d/f/n/x", impl.ErrNotDir),
		done("mkdir 0 /d/d"),
		done("create 0 /d/d/12345678"),
		gives("list 0 /", 2, "d/ f"),
		gives("list 0 /d", 2, "d/ f"),
		gives("list 0 /d/d", 1, "12345678"),
		gives("read 0 /d/f 0 10", 0, ""),
		gives("read 0 /f 0 0", 0, ""),
	)
}

func TestDirectoriesAsDeepAsMayBe(t *testing.T) {
	var lines []told
	for depth := 1; depth <= 16; depth++ {
		lines = append(lines, done("mkdir 0 "+deepPath(depth, "abcdefgh")))
	}
	lines = append(lines,
		fails("mkdir 0 "+deepPath(17, "abcdefgh"), impl.ErrLimit),
		gives("list 0 "+deepPath(15, "abcdefgh"), 1, "abcdefgh/"),
		gives("list 0 "+deepPath(16, "abcdefgh"), 0, ""),
		fails("list 0 "+deepPath(17, "abcdefgh"), impl.ErrLimit),
		fails("unlink 0 "+deepPath(15, "abcdefgh"), impl.ErrNotEmpty),
		// A directory may come to lie deeper than a path can tell.
		done("mkdir 0 /x"),
		done("rename 0 /abcdefgh /x/y"),
		gives("list 0 /x/y"+deepPath(14, "abcdefgh"), 1, "abcdefgh/"),
		fails("list 0 /x/y"+deepPath(15, "abcdefgh"), impl.ErrLimit),
		done("rename 0 /x/y /z"),
		gives("list 0 /z"+deepPath(15, "abcdefgh"), 0, ""),
	)
	wantTold(t, fresh(t, 128), lines...)
}

func TestWriteAtTheEdgesOfPieces(t *testing.T) {
	const zero = "\x00"
	wantTold(t, fresh(t, 64),
		done("create 0 /f"),
		gives("write 0 /f 0 0123456789", 10, ""),
		gives("read 0 /f 0 99", 10, "0123456789"),
		gives("write 0 /f 10 a", 1, ""),
		gives("read 0 /f 0 99", 11, "0123456789a"),
		gives("write 0 /f 9 BCD", 3, ""),
		gives("read 0 /f 0 99", 12, "012345678BCD"),
		gives("write 0 /f 0 x", 1, ""),
		gives("read 0 /f 0 99", 12, "x12345678BCD"),
		gives("write 0 /f 5 abcdefghijklmnopqrst", 20, ""),
		gives("read 0 /f 0 99", 25, "x1234abcdefghijklmnopqrst"),
		gives("fill 0 /f 19 2 #", 2, ""),
		gives("read 0 /f 0 99", 25, "x1234abcdefghijklmn##qrst"),
		gives("write 0 /f 33 z", 1, ""),
		gives("read 0 /f 20 99", 34, "#qrst"+strings.Repeat(zero, 8)+"z"),
		gives("write 0 /f 26 !", 1, ""),
		gives("read 0 /f 20 99", 34, "#qrst"+zero+"!"+strings.Repeat(zero, 6)+"z"),
		gives("fill 0 /f 50 10 w", 10, ""),
		gives("read 0 /f 30 99", 60, strings.Repeat(zero, 3)+"z"+strings.Repeat(zero, 16)+strings.Repeat("w", 10)),
		gives("write 0 /f 45 v", 1, ""),
		gives("read 0 /f 40 11", 60, strings.Repeat(zero, 5)+"v"+strings.Repeat(zero, 4)+"w"),
	)
}

func TestWriteUpToMaxFile(t *testing.T) {
	long := strings.Repeat("abcdefghij", 100)
	wantTold(t, fresh(t, 256),
		done("create 0 /f"),
		done("create 0 /g"),
		done("create 0 /h"),
		gives("write 0 /f 999 x", 1, ""),
		gives("read 0 /f 998 99", 1000, "\x00x"),
		fails("write 0 /f 999 xy", impl.ErrLimit),
		fails("write 0 /f 1000 x", impl.ErrLimit),
		fails("write 0 /f 999999 x", impl.ErrLimit),
		fails("fill 0 /f 999999 999999 x", impl.ErrLimit),
		fails("fill 0 /f 0 1001 x", impl.ErrLimit),
		fails("fill 0 /f 1 1000 x", impl.ErrLimit),
		fails("write 0 /f 0 "+long+"k", impl.ErrLimit),
		gives("read 0 /f 0 1000", 1000, strings.Repeat("\x00", 999)+"x"),
		gives("write 0 /g 0 "+long, 1000, ""),
		gives("read 0 /g 0 1000", 1000, long),
		gives("fill 0 /h 0 1000 q", 1000, ""),
		gives("read 0 /h 0 999999", 1000, strings.Repeat("q", 1000)),
		gives("fill 0 /h 990 10 r", 10, ""),
		gives("read 0 /h 985 20", 1000, "qqqqqrrrrrrrrrr"),
		done("unlink 0 /g"),
		done("unlink 0 /h"),
		done("unlink 0 /f"),
		gives("space", 251, "1 2 1"),
	)
}

func TestWriteOfNoBytes(t *testing.T) {
	wantTold(t, fresh(t, 64),
		done("create 0 /f"),
		gives("fill 0 /f 0 0 x", 0, ""),
		gives("fill 0 /f 500 0 x", 0, ""),
		gives("fill 0 /f 1000 0 x", 0, ""),
		fails("fill 0 /f 1001 0 x", impl.ErrLimit),
		fails("fill 0 /f 999999 0 x", impl.ErrLimit),
		gives("read 0 /f 0 99", 0, ""),
		gives("write 0 /f 3 abc", 3, ""),
		gives("fill 0 /f 4 0 x", 0, ""),
		gives("fill 0 /f 50 0 x", 0, ""),
		gives("read 0 /f 0 99", 6, "\x00\x00\x00abc"),
		fails("fill 0 / 0 0 x", impl.ErrIsDir),
		fails("fill 0 /n 0 0 x", impl.ErrNotFound),
		gives("space", 59, "1 2 1"),
	)
}

// With no byte to put the reserve is not looked at, however few blocks are free.
func TestWriteOfNoBytesWithoutSpace(t *testing.T) {
	items := plainTree{"/f": {ino: 2, bytes: []byte("abc"), stored: map[int64]int{0: 3}}}.items()
	s := &sketch{
		super: impl.Super{Blocks: 8, Generation: 2, Next: 5, Roots: []impl.Root{{Tree: 0, Block: 2}, {Tree: 1, Block: 4}, {Tree: 2, Block: 5}, {Tree: 3, Block: 6}}},
		nodes: map[int64]impl.Node{2: leafOf(items), 4: leafOf(items), 5: leafOf(items), 6: leafOf(nil)},
		chain: []int64{3},
	}
	wantTold(t, s.draw(make([]byte, 8*impl.BlockSize)),
		gives("space", 1, "4 1 2"),
		gives("fill 0 /f 7 0 x", 0, ""),
		fails("fill 0 /f 1001 0 x", impl.ErrLimit),
		fails("fill 0 /f 0 1 x", impl.ErrNoSpace),
		fails("unlink 0 /f", impl.ErrNoSpace),
		fails("rename 0 /f /g", impl.ErrNoSpace),
		fails("create 3 /f", impl.ErrNoSpace),
		gives("read 0 /f 0 9", 3, "abc"),
		gives("list 3 /", 0, ""),
		gives("space", 1, "4 1 2"),
	)
}

func leafOf(items []impl.Item) impl.Node {
	n := leaf()
	for _, i := range items {
		n.Entries = append(n.Entries, item(i.Key, i.Val))
	}
	return n
}

func TestReads(t *testing.T) {
	wantTold(t, fresh(t, 64),
		done("mkdir 0 /d"),
		done("create 0 /d/f"),
		gives("write 0 /d/f 0 0123456789abcde", 15, ""),
		gives("read 0 /d/f 0 0", 15, ""),
		gives("read 0 /d/f 0 1", 15, "0"),
		gives("read 0 /d/f 0 15", 15, "0123456789abcde"),
		gives("read 0 /d/f 0 16", 15, "0123456789abcde"),
		gives("read 0 /d/f 9 2", 15, "9a"),
		gives("read 0 /d/f 10 5", 15, "abcde"),
		gives("read 0 /d/f 14 1", 15, "e"),
		gives("read 0 /d/f 14 999999", 15, "e"),
		gives("read 0 /d/f 15 1", 15, ""),
		gives("read 0 /d/f 16 1", 15, ""),
		gives("read 0 /d/f 999999 999999", 15, ""),
		fails("read 0 / 0 1", impl.ErrIsDir),
		fails("read 0 /d 0 1", impl.ErrIsDir),
		fails("read 0 /n 0 1", impl.ErrNotFound),
		fails("read 0 /n/f 0 1", impl.ErrNotFound),
		fails("read 0 /d/f/g 0 1", impl.ErrNotDir),
		fails("write 0 / 0 x", impl.ErrIsDir),
		fails("write 0 /d 0 x", impl.ErrIsDir),
		fails("write 0 /n 0 x", impl.ErrNotFound),
		fails("write 0 /n/f 0 x", impl.ErrNotFound),
		fails("write 0 /d/f/g 0 x", impl.ErrNotDir),
		// The limit comes behind all of these.
		fails("write 0 / 1000 x", impl.ErrIsDir),
		fails("fill 0 /d 1000 1 x", impl.ErrIsDir),
		fails("fill 0 /n 1000 1 x", impl.ErrNotFound),
		fails("fill 0 /d/f/g 1000 1 x", impl.ErrNotDir),
	)
}

func TestLists(t *testing.T) {
	wantTold(t, fresh(t, 64),
		gives("list 0 /", 0, ""),
		done("mkdir 0 /b"),
		done("create 0 /a"),
		done("create 0 /b0"),
		done("create 0 /B"),
		done("mkdir 0 /~"),
		done("create 0 /!"),
		done("create 0 /10"),
		done("create 0 /9"),
		gives("list 0 /", 8, "! 10 9 B a b/ b0 ~/"),
		gives("list 0 /b", 0, ""),
		done("create 0 /b/z"),
		done("mkdir 0 /b/b"),
		gives("list 0 /b", 2, "b/ z"),
		gives("list 0 /b/b", 0, ""),
		fails("list 0 /a", impl.ErrNotDir),
		fails("list 0 /b/z", impl.ErrNotDir),
		fails("list 0 /n", impl.ErrNotFound),
		fails("list 0 /n/b", impl.ErrNotFound),
		fails("list 0 /a/b", impl.ErrNotDir),
		gives("list 0 /", 8, "! 10 9 B a b/ b0 ~/"),
	)
}

func TestUnlinks(t *testing.T) {
	wantTold(t, fresh(t, 64),
		fails("unlink 0 /", impl.ErrRoot),
		fails("unlink 0 /f", impl.ErrNotFound),
		done("mkdir 0 /d"),
		done("mkdir 0 /d/e"),
		done("create 0 /d/f"),
		fails("unlink 0 /", impl.ErrRoot),
		fails("unlink 0 /d", impl.ErrNotEmpty),
		fails("unlink 0 /d/n", impl.ErrNotFound),
		fails("unlink 0 /n/d", impl.ErrNotFound),
		fails("unlink 0 /d/f/x", impl.ErrNotDir),
		gives("fill 0 /d/f 5 30 x", 30, ""),
		done("unlink 0 /d/e"),
		fails("unlink 0 /d", impl.ErrNotEmpty),
		done("unlink 0 /d/f"),
		fails("unlink 0 /d/f", impl.ErrNotFound),
		gives("list 0 /d", 0, ""),
		done("unlink 0 /d"),
		gives("list 0 /", 0, ""),
		fails("create 0 /d/f", impl.ErrNotFound),
		// What comes to the same number finds nothing of the old one's bytes.
		done("create 0 /g"),
		done("create 0 /h"),
		done("create 0 /i"),
		gives("write 0 /i 0 abcdefghijklm", 13, ""),
		done("unlink 0 /i"),
		done("create 0 /j"),
		gives("read 0 /j 0 9", 0, ""),
		gives("write 0 /j 19 x", 1, ""),
		gives("read 0 /j 0 20", 20, strings.Repeat("\x00", 19)+"x"),
	)
}

func TestRenames(t *testing.T) {
	wantTold(t, fresh(t, 64),
		done("mkdir 0 /d"),
		done("mkdir 0 /d/e"),
		done("create 0 /d/e/f"),
		gives("write 0 /d/e/f 0 text", 4, ""),
		done("create 0 /g"),
		done("rename 0 /g /h"),
		gives("list 0 /", 2, "d/ h"),
		done("rename 0 /d/e/f /d/f"),
		gives("read 0 /d/f 0 9", 4, "text"),
		gives("list 0 /d", 2, "e/ f"),
		done("rename 0 /d /k"),
		gives("list 0 /", 2, "h k/"),
		gives("read 0 /k/f 0 9", 4, "text"),
		fails("read 0 /d/f 0 9", impl.ErrNotFound),
		done("rename 0 /k/e /a"),
		done("rename 0 /k /a/k"),
		gives("list 0 /a", 1, "k/"),
		gives("list 0 /a/k", 1, "f"),
		// A name that begins as the directory's does is none below it.
		done("rename 0 /a /aa"),
		done("mkdir 0 /a"),
		done("rename 0 /a /aa/a"),
		gives("list 0 /aa", 2, "a/ k/"),
		gives("list 0 /", 2, "aa/ h"),
	)
}

func TestRefusedRenames(t *testing.T) {
	wantTold(t, fresh(t, 64),
		done("mkdir 0 /d"),
		done("mkdir 0 /d/e"),
		done("create 0 /d/f"),
		done("create 0 /g"),
		fails("rename 0 / /z", impl.ErrRoot),
		fails("rename 0 / /", impl.ErrRoot),
		fails("rename 0 / /d", impl.ErrRoot),
		fails("rename 0 / /n/z", impl.ErrRoot),
		fails("rename 0 /n /z", impl.ErrNotFound),
		fails("rename 0 /n /", impl.ErrNotFound),
		fails("rename 0 /n /n", impl.ErrNotFound),
		fails("rename 0 /g/x /", impl.ErrNotDir),
		fails("rename 0 /n/x /g/y", impl.ErrNotFound),
		fails("rename 0 /g/x /n/y", impl.ErrNotDir),
		fails("rename 0 /d /", impl.ErrExist),
		fails("rename 0 /d /d", impl.ErrExist),
		fails("rename 0 /g /g", impl.ErrExist),
		fails("rename 0 /g /d", impl.ErrExist),
		fails("rename 0 /d /g", impl.ErrExist),
		fails("rename 0 /d/f /d/e", impl.ErrExist),
		fails("rename 0 /d /d/e", impl.ErrExist),
		fails("rename 0 /d/e /d", impl.ErrExist),
		fails("rename 0 /d /g/x", impl.ErrNotDir),
		fails("rename 0 /d /n/x", impl.ErrNotFound),
		fails("rename 0 /g /g/x", impl.ErrNotDir),
		fails("rename 0 /d /d/n/x", impl.ErrNotFound),
		fails("rename 0 /d /d/f/x", impl.ErrNotDir),
		fails("rename 0 /d /d/x", impl.ErrInside),
		fails("rename 0 /d /d/e/x", impl.ErrInside),
		fails("rename 0 /d/e /d/e/e", impl.ErrInside),
		gives("list 0 /", 2, "d/ g"),
		gives("list 0 /d", 2, "e/ f"),
		gives("list 0 /d/e", 0, ""),
		gives("space", 57, "3 2 1"),
	)
}

// Each line has at least two faults; the earlier one tells.
func TestOrderOfErrorsInLines(t *testing.T) {
	long := "/123456789"
	wantTold(t, fresh(t, 64),
		done("mkdir 0 /d"),
		fails(strings.Repeat("é", impl.MaxLine), impl.ErrLimit),
		fails("create 9 x extra", impl.ErrSyntax),
		fails("create 09 x", impl.ErrSyntax),
		fails("create 9 x", impl.ErrNoTree),
		fails("create 9 "+long, impl.ErrNoTree),
		fails("create 999999 /d", impl.ErrNoTree),
		fails("rename 1 x y", impl.ErrNoTree),
		fails("rename 0 x "+long, impl.ErrPath),
		fails("rename 0 "+long+" x", impl.ErrLimit),
		fails("rename 0 / x", impl.ErrPath),
		fails("rename 0 / "+long, impl.ErrLimit),
		fails("rename 0 /n //", impl.ErrPath),
		fails("rename 0 /n /z/", impl.ErrPath),
		fails("write 9 / 5000 x", impl.ErrNoTree),
		fails("write 0 x 5000 x", impl.ErrPath),
		fails("fill 0 "+long+" 5000 1 x", impl.ErrLimit),
		fails("read 0 /d/ 0 1", impl.ErrPath),
		fails("list 0 //", impl.ErrPath),
		fails("list 1 //", impl.ErrNoTree),
		fails("unlink 0 d", impl.ErrPath),
		fails("unlink 1 /", impl.ErrNoTree),
		fails("mkdir 0 "+deepPath(17, "n"), impl.ErrLimit),
		fails("mkdir 0 "+strings.Repeat("x", 201), impl.ErrLimit),
		fails("clone 5", impl.ErrNoTree),
		fails("drop 5", impl.ErrNoTree),
		fails("crash 00 -", impl.ErrSyntax),
		gives("list 0 /", 1, "d/"),
	)
}

func TestSpace(t *testing.T) {
	wantTold(t, fresh(t, 8), gives("space", 4, "1 1 1"))
	wantTold(t, fresh(t, 512), gives("space", 508, "1 1 1"))
	wantTold(t, fresh(t, 64),
		gives("space", 60, "1 1 1"),
		gives("list 0 /", 0, ""),
		gives("space", 60, "1 1 1"),
		// The root is copied once, at the first change.
		done("create 0 /a"),
		gives("space", 59, "1 2 1"),
		done("create 0 /b"),
		gives("space", 59, "1 2 1"),
		// The fifth item fills the root; the sixth splits it in two below a new one.
		done("create 0 /c"),
		gives("space", 57, "3 2 1"),
		done("unlink 0 /c"),
		done("unlink 0 /b"),
		done("unlink 0 /a"),
		gives("space", 59, "1 2 1"),
	)
	wantTold(t, after(t, after(t, fresh(t, 64), clone(0)), put(1, key(2, 1, ""), "\x02"), put(1, key(1, 2, "d"), two(2))),
		gives("space", 59, "2 1 3"),
		gives("list 0 /", 0, ""),
		gives("list 1 /", 1, "d/"),
		done("mkdir 0 /e"),
		gives("list 1 /", 1, "d/"),
		gives("list 0 /", 1, "e/"),
		gives("space", 58, "2 2 3"),
	)
}

func TestTreesByTheirNumbers(t *testing.T) {
	disk := fresh(t, 64)
	for range 3 {
		disk = after(t, disk, clone(0))
	}
	disk = after(t, disk, drop(1))
	wantTold(t, disk,
		done("create 0 /zero"),
		fails("create 1 /one", impl.ErrNoTree),
		done("create 2 /two"),
		done("create 3 /three"),
		fails("create 4 /four", impl.ErrNoTree),
		gives("list 0 /", 1, "zero"),
		gives("list 2 /", 1, "two"),
		gives("list 3 /", 1, "three"),
		fails("list 1 /", impl.ErrNoTree),
		fails("read 1 /one 0 1", impl.ErrNoTree),
		fails("list 4 /", impl.ErrNoTree),
	)
}

func TestUncommittedLinesAreNotOnTheDisk(t *testing.T) {
	disk := fresh(t, 64)
	out := impl.RunScript(disk, "mkdir 0 /d\ncreate 0 /d/f\nfill 0 /d/f 0 500 x\n")
	if out.Code != impl.OK || !bytes.Equal(out.Disk, disk) {
		t.Fatalf("code %d, the same disk: %v", out.Code, bytes.Equal(out.Disk, disk))
	}
	wantTold(t, out.Disk, gives("list 0 /", 0, ""), gives("space", 60, "1 1 1"))
}

func TestScriptsShareNothing(t *testing.T) {
	disk := after(t, fresh(t, 64), put(0, key(2, 1, ""), "\x02"), put(0, key(1, 2, "d"), two(2)))
	long := append(bytes.Clone(disk), disk...)
	before := bytes.Clone(long)
	const script = "create 0 /d/f\nwrite 0 /d/f 0 text\nread 0 /d/f 0 9\nspace\nlist 0 /\n?\n"
	out := impl.RunScript(long[:len(disk)], script)
	if !bytes.Equal(long, before) {
		t.Errorf("the image was written into")
	}
	want := slices.Clone(out.Answers)
	turnBytes(out.Disk)
	clear(out.Answers[:cap(out.Answers)])
	if !bytes.Equal(long, before) {
		t.Errorf("a change of the answer changed the image")
	}
	again := impl.RunScript(disk, script)
	if again.Code != impl.OK || !slices.Equal(again.Answers, want) || !bytes.Equal(again.Disk, disk) {
		t.Errorf("a second run answers %+v, the first %+v", again.Answers, want)
	}
}
