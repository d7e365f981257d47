package tests

import (
	"strconv"
	"strings"
	"testing"

	"loop.example/s01595/impl"
)

// fewTrees is a volume by another hand: one tree without items in a leaf of its own for each of the numbers.
func fewTrees(blocks, generation, next int64, numbers ...int64) *sketch {
	s := &sketch{
		super: impl.Super{Blocks: blocks, Generation: generation, Next: next},
		nodes: map[int64]impl.Node{},
		chain: []int64{3},
	}
	block := int64(2)
	for _, tree := range numbers {
		s.super.Roots = append(s.super.Roots, impl.Root{Tree: tree, Block: block})
		s.nodes[block] = leaf()
		block = max(4, block+1)
	}
	return s
}

func (s *sketch) drawn() []byte {
	return s.draw(make([]byte, s.super.Blocks*impl.BlockSize))
}

func TestClonesReadAsTheirSources(t *testing.T) {
	wantTold(t, fresh(t, 128),
		done("mkdir 0 /d"),
		done("create 0 /d/f"),
		gives("write 0 /d/f 0 first", 5, ""),
		gives("clone 0", 1, ""),
		gives("clone 0", 2, ""),
		gives("read 1 /d/f 0 9", 5, "first"),
		gives("read 2 /d/f 0 9", 5, "first"),
		// A change of a clone, then of its source.
		gives("write 1 /d/f 0 clone", 5, ""),
		done("create 1 /one"),
		gives("read 0 /d/f 0 9", 5, "first"),
		gives("read 2 /d/f 0 9", 5, "first"),
		gives("list 0 /", 1, "d/"),
		gives("list 2 /", 1, "d/"),
		gives("write 0 /d/f 5 er", 2, ""),
		done("mkdir 0 /zero"),
		gives("read 0 /d/f 0 9", 7, "firster"),
		gives("read 1 /d/f 0 9", 5, "clone"),
		gives("read 2 /d/f 0 9", 5, "first"),
		gives("list 0 /", 2, "d/ zero/"),
		gives("list 1 /", 2, "d/ one"),
		gives("list 2 /", 1, "d/"),
		// A clone of a clone has what the clone has by now.
		gives("clone 1", 3, ""),
		done("unlink 1 /d/f"),
		done("rename 3 /d/f /g"),
		gives("list 1 /d", 0, ""),
		gives("list 3 /", 3, "d/ g one"),
		gives("read 3 /g 0 9", 5, "clone"),
		gives("list 0 /d", 1, "f"),
		gives("list 2 /d", 1, "f"),
	)
}

func TestDropOfSourceWhoseCloneLives(t *testing.T) {
	var lines []told
	for at := range 30 {
		lines = append(lines, done("create 0 /"+strconv.Itoa(at)))
	}
	text := strings.Repeat("0123456789", 30)
	lines = append(lines,
		gives("write 0 /7 0 "+text, 300, ""),
		gives("clone 0", 1, ""),
		gives("clone 1", 2, ""),
		// All is shared: no block dies with the source.
		gives("drop 0", 0, ""),
		fails("read 0 /7 0 9", impl.ErrNoTree),
		fails("drop 0", impl.ErrNoTree),
		gives("read 1 /7 0 999", 300, text),
		done("unlink 1 /7"),
		gives("read 2 /7 0 999", 300, text),
		gives("sync", 2, ""),
		gives("clone 2", 3, ""),
		gives("drop 2", 0, ""),
		gives("read 3 /7 0 999", 300, text),
		gives("fill 3 /7 0 300 x", 300, ""),
		gives("sync", 3, ""),
		gives("read 3 /7 0 999", 300, strings.Repeat("x", 300)),
		fails("read 1 /7 0 9", impl.ErrNotFound),
	)
	toldDisk(t, fresh(t, 256), lines...)
}

// A clone takes no block; the first change of either copies the way from the root down.
func TestSpaceAroundClones(t *testing.T) {
	toldDisk(t, fresh(t, 64),
		gives("space", 60, "1 1 1"),
		gives("clone 0", 1, ""),
		gives("space", 60, "1 1 1"),
		// Block 2 lives on below tree 0.
		done("create 1 /a"),
		gives("space", 59, "2 1 1"),
		done("create 0 /a"),
		gives("space", 58, "2 2 1"),
		gives("sync", 2, ""),
		// The table is the only one to be pinned.
		gives("space", 59, "2 1 2"),
		gives("clone 1", 2, ""),
		gives("drop 1", 0, ""),
		gives("space", 59, "2 1 2"),
		// What is committed is pinned until the next sync.
		gives("drop 2", 1, ""),
		gives("space", 59, "1 2 2"),
		gives("sync", 3, ""),
		gives("space", 60, "1 1 3"),
		// What is not committed is free at once.
		gives("clone 0", 3, ""),
		done("mkdir 3 /d"),
		gives("space", 59, "2 1 3"),
		gives("drop 3", 1, ""),
		gives("space", 60, "1 1 3"),
	)
}

// Of the source's three nodes the root and one leaf are copied in the clone; the other leaf dies with the last of the two.
func TestBlocksThatDieInDrops(t *testing.T) {
	files := []told{done("create 0 /a"), done("create 0 /b"), done("create 0 /c"), gives("space", 57, "3 2 1"), gives("clone 0", 1, "")}
	change := []told{gives("space", 57, "3 2 1"), done("rename 1 /a /!"), gives("space", 55, "5 2 1")}
	wantTold(t, fresh(t, 64), append(append(files, change...), gives("drop 0", 2, ""), gives("space", 57, "3 2 1"), fails("drop 1", impl.ErrLast))...)
	wantTold(t, fresh(t, 64), append(append(files, change...), gives("drop 1", 2, ""), gives("space", 57, "3 2 1"), fails("drop 0", impl.ErrLast))...)
	wantTold(t, fresh(t, 64), append(files, gives("drop 1", 0, ""), gives("clone 0", 2, ""), gives("drop 0", 0, ""), gives("clone 2", 3, ""), gives("drop 2", 0, ""), gives("list 3 /", 3, "a b c"))...)
}

func TestClonesOfNoTree(t *testing.T) {
	wantTold(t, fresh(t, 64),
		fails("clone 1", impl.ErrNoTree),
		fails("drop 1", impl.ErrNoTree),
		fails("clone 999999", impl.ErrNoTree),
		fails("drop 999999", impl.ErrNoTree),
		fails("drop 0", impl.ErrLast),
		gives("clone 0", 1, ""),
		gives("drop 0", 0, ""),
		fails("clone 0", impl.ErrNoTree),
		fails("drop 0", impl.ErrNoTree),
		fails("drop 1", impl.ErrLast),
		gives("list 1 /", 0, ""),
		// A number is handed out once.
		gives("clone 1", 2, ""),
		gives("drop 2", 0, ""),
		gives("clone 1", 3, ""),
		fails("clone 2", impl.ErrNoTree),
		fails("clone", impl.ErrSyntax),
		fails("drop", impl.ErrSyntax),
		fails("clone 1 1", impl.ErrSyntax),
		fails("drop 01", impl.ErrSyntax),
		fails("clone -1", impl.ErrSyntax),
		gives("clone 1", 4, ""),
		gives("space", 60, "1 1 1"),
	)
}

func TestAsManyTreesAsMayBe(t *testing.T) {
	lines := []told{done("create 0 /f")}
	for tree := range int64(15) {
		lines = append(lines, gives("clone "+strconv.FormatInt(tree, 10), tree+1, ""))
	}
	lines = append(lines,
		fails("clone 0", impl.ErrLimit),
		fails("clone 15", impl.ErrLimit),
		fails("clone 16", impl.ErrNoTree),
		done("create 15 /g"),
		gives("sync", 2, ""),
		fails("clone 0", impl.ErrLimit),
		gives("drop 7", 0, ""),
		// The number that a refused clone would have got is still to be had.
		gives("clone 15", 16, ""),
		fails("clone 15", impl.ErrLimit),
		gives("list 16 /", 2, "f g"),
		gives("list 14 /", 1, "f"),
		gives("sync", 3, ""),
	)
	disk := toldDisk(t, fresh(t, 64), lines...)
	wantTold(t, disk, fails("clone 0", impl.ErrLimit), gives("drop 16", 0, ""), gives("clone 1", 17, ""), fails("list 16 /", impl.ErrNoTree), gives("list 17 /", 1, "f"))
	views, code := impl.ReadAll(disk)
	if code != impl.OK || len(views) != 16 || views[6].Tree != 6 || views[7].Tree != 8 || views[15].Tree != 16 || len(views[15].Files) != 2 {
		t.Errorf("code %d, views %v", code, views)
	}
}

func TestTreeNumbersNearTheirEnd(t *testing.T) {
	disk := toldDisk(t, fewTrees(64, 8, impl.MaxTreeID-2, 5, 65000).drawn(),
		gives("clone 65000", 65533, ""),
		done("create 65533 /a"),
		gives("clone 65533", 65534, ""),
		fails("clone 5", impl.ErrLimit),
		fails("clone 65535", impl.ErrNoTree),
		done("create 65534 /b"),
		gives("list 65534 /", 2, "a b"),
		gives("list 65533 /", 1, "a"),
		gives("sync", 9, ""),
		gives("drop 65534", 1, ""),
		fails("clone 65533", impl.ErrLimit),
		gives("crash 0 -", 9, ""),
		gives("list 65534 /", 2, "a b"),
		fails("clone 65533", impl.ErrLimit),
		gives("drop 65534", 1, ""),
		gives("sync", 10, ""),
	)
	wantTold(t, disk, fails("clone 5", impl.ErrLimit), gives("list 65533 /", 1, "a"), fails("list 65534 /", impl.ErrNoTree))
	if v, _ := impl.Mount(disk); v.Next != impl.MaxTreeID {
		t.Errorf("the next number is %d", v.Next)
	}
	last := fewTrees(64, 8, impl.MaxTreeID, 0, 65534).drawn()
	wantTold(t, last, fails("clone 0", impl.ErrLimit), fails("clone 65534", impl.ErrLimit), gives("drop 0", 1, ""), fails("clone 65534", impl.ErrLimit), fails("drop 65534", impl.ErrLast))
}

// A clone or a drop that is refused leaves the trees, the space and what the next sync writes.
func TestRefusedClonesLeaveAll(t *testing.T) {
	plain := []told{done("create 0 /a"), gives("sync", 2, ""), gives("clone 0", 1, ""), gives("drop 0", 0, ""), gives("space", 60, "1 1 2"), gives("sync", 3, "")}
	wrong := []told{plain[0], fails("clone 1", impl.ErrNoTree), fails("drop 0", impl.ErrLast), plain[1], fails("drop 5", impl.ErrNoTree), plain[2], plain[3], fails("drop 1", impl.ErrLast), fails("clone 0", impl.ErrNoTree), plain[4], plain[5]}
	disk := fresh(t, 64)
	if string(toldDisk(t, disk, plain...)) != string(toldDisk(t, disk, wrong...)) {
		t.Errorf("refused lines are to be seen on the disk")
	}
}
