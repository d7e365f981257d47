package tests

import (
	"math/rand"
	"slices"
	"strings"
	"testing"

	"loop.example/s01595/impl"
)

// loose are the items of a tree that may be no file tree.
type loose map[string]string

func (l loose) items() []impl.Item {
	out := []impl.Item{}
	for k, v := range l {
		out = append(out, impl.Item{Key: k, Val: v})
	}
	slices.SortFunc(out, func(a, b impl.Item) int { return strings.Compare(a.Key, b.Key) })
	return out
}

func piece(ino int64, x byte) string {
	return key(ino, 3, string([]byte{x}))
}

// someFiles is "/d" (2), "/d/e" (300), "/d/f" (4, 25 bytes with a hole), "/g" (5, no bytes), "/d/e/12345678" (65535, as long as may be).
func someFiles() loose {
	return loose{
		key(2, 1, ""):           "\x02",
		key(300, 1, ""):         "\x02",
		key(4, 1, ""):           "\x01\x19\x00",
		key(5, 1, ""):           "\x01\x00\x00",
		key(65535, 1, ""):       "\x01\xe8\x03",
		key(1, 2, "d"):          two(2),
		key(2, 2, "e"):          two(300),
		key(2, 2, "f"):          two(4),
		key(1, 2, "g"):          two(5),
		key(300, 2, "12345678"): two(65535),
		piece(4, 0):             "0123456789",
		piece(4, 2):             "abcde",
		piece(65535, 0):         "x",
		piece(65535, 98):        "0123456789",
		piece(65535, 99):        "\x00",
	}
}

func (l loose) volume(t *testing.T, trees int64) []byte {
	t.Helper()
	ops := []impl.TreeOp{}
	for range trees - 1 {
		ops = append(ops, clone(0))
	}
	return after(t, fresh(t, 128), append(ops, itemOps(trees-1, l.items())...)...)
}

// wantFileTree asks for the tree alone, and behind two good ones.
func wantFileTree(t *testing.T, what string, l loose, want int64) {
	t.Helper()
	for _, trees := range []int64{1, 3} {
		wantWhole(t, what, l.volume(t, trees), "space\n", want)
	}
}

// with gives a changed copy.
func (l loose) with(change func(l loose)) loose {
	out := loose{}
	for k, v := range l {
		out[k] = v
	}
	change(out)
	return out
}

func TestFilesByAnotherHand(t *testing.T) {
	wantFileTree(t, "some files", someFiles(), impl.OK)
	zero := "\x00"
	wantTold(t, someFiles().volume(t, 2),
		gives("list 0 /", 0, ""),
		gives("list 1 /", 2, "d/ g"),
		gives("list 1 /d", 2, "e/ f"),
		gives("list 1 /d/e", 1, "12345678"),
		gives("read 1 /d/f 0 99", 25, "0123456789"+strings.Repeat(zero, 10)+"abcde"),
		gives("read 1 /d/e/12345678 979 99", 1000, zero+"0123456789"+strings.Repeat(zero, 10)),
		gives("read 1 /d/e/12345678 0 3", 1000, "x"+zero+zero),
		// A piece shorter than the file would allow is lengthened no further than the write goes.
		gives("write 1 /d/e/12345678 3 yz", 2, ""),
		gives("read 1 /d/e/12345678 0 7", 1000, "x"+zero+zero+"yz"+zero+zero),
		gives("write 1 /d/f 12 !", 1, ""),
		gives("read 1 /d/f 8 9", 25, "89"+zero+zero+"!"+strings.Repeat(zero, 4)),
		gives("write 1 /d/f 1 !", 1, ""),
		gives("read 1 /d/f 0 10", 25, "0!23456789"),
		done("rename 1 /d/e /e"),
		done("unlink 1 /e/12345678"),
		done("unlink 1 /e"),
		gives("list 1 /", 2, "d/ g"),
	)
}

func soundFileTrees() map[string]func(l loose) {
	return map[string]func(l loose){
		"as it is":                func(l loose) {},
		"the least name":          func(l loose) { l[key(1, 2, "!")] = two(9); l[key(9, 1, "")] = "\x02" },
		"names of dots":           func(l loose) { l[key(1, 2, "..")] = two(9); l[key(9, 1, "")] = "\x02" },
		"the greatest name":       func(l loose) { l[key(1, 2, "~~~~~~~~")] = two(9); l[key(9, 1, "")] = "\x01\x00\x00" },
		"size 1000 and no bytes":  func(l loose) { l[key(5, 1, "")] = "\x01\xe8\x03" },
		"bytes up to the size":    func(l loose) { l[piece(4, 1)] = "0123456789"; l[key(4, 1, "")] = "\x01\x19\x00" },
		"one byte in a piece":     func(l loose) { l[piece(4, 1)] = "x" },
		"the last byte of all":    func(l loose) { l[piece(65535, 99)] = "0123456789" },
		"a number below its dir":  func(l loose) { l[key(300, 2, "x")] = two(3); l[key(3, 1, "")] = "\x02" },
		"one name in many places": func(l loose) { l[key(2, 2, "g")] = two(3); l[key(3, 1, "")] = "\x01\x00\x00" },
		"no more than the root": func(l loose) {
			for k := range l {
				delete(l, k)
			}
		},
	}
}

// badForms break the form of one item.
func badForms() map[string]func(l loose) {
	out := map[string]func(l loose){
		"a size of 1001":               func(l loose) { l[key(5, 1, "")] = "\x01\xe9\x03" },
		"a size of 65535":              func(l loose) { l[key(5, 1, "")] = "\x01\xff\xff" },
		"a size with bytes turned":     func(l loose) { l[key(65535, 1, "")] = "\x01\x03\xe8" },
		"a piece 100":                  func(l loose) { l[piece(65535, 100)] = "x" },
		"a piece 255":                  func(l loose) { l[piece(65535, 255)] = "x" },
		"an empty piece":               func(l loose) { l[piece(65535, 50)] = "" },
		"a piece of no place":          func(l loose) { l[key(4, 3, "")] = "x" },
		"a piece of two bytes' place":  func(l loose) { l[key(4, 3, "\x00\x00")] = "x" },
		"an inode with a name":         func(l loose) { l[key(4, 1, "x")] = "\x02" },
		"an inode with a zero":         func(l loose) { l[key(5, 1, "\x00")] = "\x01\x00\x00" },
		"an inode of the root":         func(l loose) { l[key(1, 1, "")] = "\x02" },
		"an inode of number 0":         func(l loose) { l[key(0, 1, "")] = "\x02"; l[key(1, 2, "zero")] = two(0) },
		"an entry of number 0":         func(l loose) { l[key(0, 2, "x")] = two(7); l[key(7, 1, "")] = "\x02" },
		"a piece of the root":          func(l loose) { l[piece(1, 0)] = "x" },
		"a piece of number 0":          func(l loose) { l[piece(0, 0)] = "x" },
		"an entry without a name":      func(l loose) { l[key(1, 2, "")] = two(7); l[key(7, 1, "")] = "\x02" },
		"an entry that names the root": func(l loose) { l[key(300, 2, "up")] = two(1) },
		"an entry that names 0":        func(l loose) { l[key(300, 2, "no")] = two(0) },
	}
	for _, val := range []string{"", "\x00", "\x01", "\x03", "\x02\x00", "\x02\x00\x00", "\x00\x00\x00", "\x03\x00\x00", "\x01\x00", "\x01\x00\x00\x00", "\xff"} {
		out["an inode that says "+val] = func(l loose) { l[key(5, 1, "")] = val }
	}
	for _, name := range []string{"123456789", "a/b", "/", "/a", "a/", "\x20", "a b", "\x7f", "a\x80", "\x00", "a\x00", "é"} {
		out["an entry of the name "+name] = func(l loose) { l[key(1, 2, name)] = two(7); l[key(7, 1, "")] = "\x02" }
	}
	for _, val := range []string{"", "\x07", "\x00\x07\x00", "\x00\x00\x07"} {
		out["an entry that says "+val] = func(l loose) { l[key(1, 2, "seven")] = val; l[key(7, 1, "")] = "\x02" }
	}
	for _, k := range []string{"", "\x00", "\x00\x05", "\x00\x05\x00", "\x00\x05\x04", "\x00\x05\x04x", "\x00\x05\xff", "\x00\x05\x00\x01", "\x01\x00\x05", "123456789012"} {
		out["a key of another form "+k] = func(l loose) { l[k] = "\x02" }
	}
	return out
}

// badLinks have the right forms.
func badLinks() map[string]func(l loose) {
	return map[string]func(l loose){
		"an entry in a file":               func(l loose) { l[key(5, 2, "x")] = two(7); l[key(7, 1, "")] = "\x02" },
		"an entry in nothing":              func(l loose) { l[key(9, 2, "x")] = two(7); l[key(7, 1, "")] = "\x02" },
		"an entry in nothing, besides":     func(l loose) { l[key(9, 2, "x")] = two(5); delete(l, key(1, 2, "g")) },
		"an entry that names nothing":      func(l loose) { l[key(1, 2, "x")] = two(7) },
		"an inode out, its entry left":     func(l loose) { delete(l, key(5, 1, "")) },
		"an inode of a file out":           func(l loose) { delete(l, key(4, 1, "")) },
		"a piece in a directory":           func(l loose) { l[piece(2, 0)] = "x" },
		"a piece in nothing":               func(l loose) { l[piece(9, 0)] = "x" },
		"a piece beyond the size":          func(l loose) { l[piece(4, 3)] = "x" },
		"a piece one byte beyond the size": func(l loose) { l[piece(4, 2)] = "abcdef" },
		"a size one byte too small":        func(l loose) { l[key(4, 1, "")] = "\x01\x18\x00" },
		"a piece in a file of no bytes":    func(l loose) { l[piece(5, 0)] = "x" },
		"two names in one directory":       func(l loose) { l[key(1, 2, "h")] = two(5) },
		"two names in two directories":     func(l loose) { l[key(300, 2, "g")] = two(5) },
		"two names of a directory":         func(l loose) { l[key(1, 2, "e")] = two(300) },
		"a file without a name":            func(l loose) { delete(l, key(1, 2, "g")) },
		"a directory without a name":       func(l loose) { delete(l, key(1, 2, "d")) },
		"a directory that names itself":    func(l loose) { l[key(7, 2, "x")] = two(7); l[key(7, 1, "")] = "\x02" },
		"a ring of two": func(l loose) {
			l[key(7, 2, "x")], l[key(8, 2, "x")], l[key(7, 1, "")], l[key(8, 1, "")] = two(8), two(7), "\x02", "\x02"
		},
		"two names, and one without a name": func(l loose) { l[key(300, 2, "g")] = two(5); l[key(9, 1, "")] = "\x02" },
		"a directory and what it named":     func(l loose) { delete(l, key(1, 2, "d")); l[key(1, 2, "f")] = two(4); delete(l, key(2, 2, "f")) },
		"a root in its own child": func(l loose) {
			l[key(7, 2, "x")], l[key(7, 1, "")] = two(2), "\x02"
			delete(l, key(1, 2, "d"))
			l[key(300, 2, "x")] = two(7)
		},
	}
}

func TestFileTreesThatAreSound(t *testing.T) {
	for name, change := range soundFileTrees() {
		wantFileTree(t, name, someFiles().with(change), impl.OK)
	}
}

func TestFileTreesThatAreNot(t *testing.T) {
	for name, change := range badForms() {
		wantFileTree(t, name, someFiles().with(change), impl.ErrForm)
	}
	for name, change := range badLinks() {
		wantFileTree(t, name, someFiles().with(change), impl.ErrForm)
	}
}

// plainKind is 1 for an inode, 2 for an entry, 3 for a piece; 0 for an item of another form.
func plainKind(k, v string) int {
	if len(k) < 3 {
		return 0
	}
	ino, rest := int(k[0])*256+int(k[1]), k[3:]
	switch {
	case k[2] == 1 && ino >= 2 && rest == "" && v == "\x02":
		return 1
	case k[2] == 1 && ino >= 2 && rest == "" && len(v) == 3 && v[0] == 1 && int(v[1])+256*int(v[2]) <= 1000:
		return 1
	case k[2] == 2 && ino >= 1 && plainPath("/"+rest) == impl.OK && rest != "" && !strings.Contains(rest, "/") && len(v) == 2 && v >= "\x00\x02":
		return 2
	case k[2] == 3 && ino >= 2 && len(rest) == 1 && rest[0] < 100 && len(v) >= 1:
		return 3
	}
	return 0
}

// plainIsFileTree goes through the definition's sentences, each over all items.
func plainIsFileTree(l loose) bool {
	isDir := func(ino string) bool { return ino == "\x00\x01" || l[ino+"\x01"] == "\x02" }
	names := map[string]string{}
	for k, v := range l {
		switch plainKind(k, v) {
		case 0:
			return false
		case 2:
			if !isDir(k[:2]) || l[v+"\x01"] == "" || names[v] != "" {
				return false
			}
			names[v] = k[:2]
		case 3:
			is := l[k[:2]+"\x01"]
			if len(is) != 3 || 10*int(k[3])+len(v) > int(is[1])+256*int(is[2]) {
				return false
			}
		}
	}
	for k, v := range l {
		if plainKind(k, v) == 1 && !plainReached(names, k[:2]) {
			return false
		}
	}
	return true
}

// plainReached goes upwards, no further than there are names.
func plainReached(names map[string]string, ino string) bool {
	for range len(names) + 1 {
		if ino == "\x00\x01" {
			return true
		}
		ino = names[ino]
	}
	return false
}

// spoilItems changes one or two things; some of what comes out is a file tree again.
func spoilItems(r *rand.Rand, l loose) loose {
	return l.with(func(l loose) {
		for range 1 + r.Intn(2) {
			items := l.items()
			i := items[r.Intn(len(items))]
			k, v := []byte(i.Key), []byte(i.Val)
			switch r.Intn(7) {
			case 0:
				k = []byte{}
			case 1:
				v = append(v, 0)[:min(10, len(v)+1)]
			case 2:
				v = v[:max(0, len(v)-1)]
			case 3:
				k[r.Intn(len(k))] = byte(r.Intn(6))
			case 4:
				if len(v) > 0 {
					v[r.Intn(len(v))] = byte(r.Intn(6))
				}
			case 5:
				k = append(k, byte(r.Intn(128)))[:min(12, len(k)+1)]
			case 6:
				l[key(int64(r.Intn(6)), byte(1+r.Intn(3)), "")] = "\x02"
			}
			delete(l, i.Key)
			if len(k) > 0 {
				l[string(k)] = string(v)
			}
		}
	})
}

func TestRandomSpoiltFileTrees(t *testing.T) {
	r := rand.New(rand.NewSource(19))
	seen := map[int64]int{}
	for range 4000 {
		l := spoilItems(r, someFiles())
		want := int64(impl.ErrForm)
		if plainIsFileTree(l) {
			want = impl.OK
		}
		seen[want]++
		wantWhole(t, "spoilt", l.volume(t, 1), "", want)
	}
	if seen[impl.OK] < 100 || seen[impl.ErrForm] < 100 {
		t.Errorf("%v: too few of one kind", seen)
	}
}

func TestEveryTreeIsLookedAt(t *testing.T) {
	good := someFiles()
	for bad := range int64(4) {
		ops := []impl.TreeOp{clone(0), clone(0), clone(0), clone(0), drop(2)}
		for _, tree := range []int64{0, 1, 3, 4} {
			ops = append(ops, itemOps(tree, good.items())...)
		}
		disk := after(t, fresh(t, 256), ops...)
		wantWhole(t, "good trees", disk, "", impl.OK)
		tree := []int64{0, 1, 3, 4}[bad]
		spoilt := after(t, disk, del(tree, key(5, 1, "")))
		wantWhole(t, "one bad tree", spoilt, "", impl.ErrForm)
		if tree != 0 {
			wantWhole(t, "the bad tree dropped", after(t, spoilt, drop(tree)), "", impl.OK)
		}
	}
}

func TestLongChainOfDirectories(t *testing.T) {
	ops := []impl.TreeOp{}
	for ino := int64(2); ino < 302; ino++ {
		ops = append(ops, put(0, key(ino, 1, ""), "\x02"), put(0, key(ino-1, 2, "n"), two(ino)))
	}
	disk := after(t, fresh(t, 512), ops...)
	wantTold(t, disk,
		gives("list 0 "+deepPath(16, "n"), 1, "n/"),
		fails("unlink 0 "+deepPath(16, "n"), impl.ErrNotEmpty),
		done("rename 0 "+deepPath(16, "n")+" /m"),
		gives("list 0 /", 2, "m/ n/"),
		gives("list 0 /m"+deepPath(15, "n"), 1, "n/"),
	)
	wantWhole(t, "the chain cut in the midst", after(t, disk, del(0, key(150, 2, "n"))), "", impl.ErrForm)
	wantWhole(t, "its end bound to a ring", after(t, disk, del(0, key(150, 2, "n")), put(0, key(301, 2, "n"), two(151))), "", impl.ErrForm)
}
