package tests

import (
	"bytes"
	"fmt"
	"math/rand"
	"slices"
	"testing"

	"loop.example/s01595/impl"
)

const sketchBlocks = 64

// threeTrees has a tree of three levels, one of a single leaf, and one that is a part of the first.
func threeTrees(generation int64) *sketch {
	return &sketch{
		super: impl.Super{Blocks: sketchBlocks, Generation: generation, Next: 9, Roots: []impl.Root{{Tree: 0, Block: 20}, {Tree: 3, Block: 30}, {Tree: 5, Block: 22}}},
		nodes: map[int64]impl.Node{
			20: inner(child("b", 21), child("j", 22)),
			21: inner(child("b", 23), child("e", 24)),
			22: inner(child("j", 25), child("m", 26), child("p", 27)),
			23: leaf(item("b", "1"), item("c", "2")),
			24: leaf(item("e", "3"), item("f", "4")),
			25: leaf(item("j", "5"), item("k", "6")),
			26: leaf(item("m", "7"), item("n", "8")),
			27: leaf(item("p", "9"), item("q", "10"), item("r", "11")),
			30: leaf(item("x", "12")),
		},
		chain: []int64{40},
	}
}

// otherVolume shares no block with the sketches that are spoilt.
func otherVolume(generation int64) *sketch {
	return &sketch{
		super: impl.Super{Blocks: sketchBlocks, Generation: generation, Next: 1, Roots: []impl.Root{{Tree: 0, Block: 10}}},
		nodes: map[int64]impl.Node{10: leaf(item("old", "tree"))},
		chain: []int64{11},
	}
}

// manyRunsSketch has nodes in every second block from 12 on: each is a run, and so is each of the table's blocks.
func manyRunsSketch(generation int64, leaves int, chain ...int64) *sketch {
	s := &sketch{
		super: impl.Super{Blocks: sketchBlocks, Generation: generation, Next: 1, Roots: []impl.Root{{Tree: 0}}},
		nodes: map[int64]impl.Node{},
		chain: chain,
	}
	places := from(6, leaves+20)
	for i := range places {
		places[i] *= 2
	}
	s.super.Roots[0].Block = treeOver(s.nodes, places[:leaves], places[leaves:], 4)
	return s
}

func (s *sketch) rename(block int64, at int, to int64) {
	s.nodes[block].Entries[at].Child = to
}

func (s *sketch) rekey(block int64, at int, key string) {
	s.nodes[block].Entries[at].Key = key
}

func (s *sketch) changeTables(change func(tables []impl.Table) []impl.Table) {
	s.tables = change(s.rightTables())
}

// soundChanges leave a slot sound, though they look like the faults below.
func soundChanges() map[string]func(s *sketch) {
	return map[string]func(s *sketch){
		"none":                                 func(s *sketch) {},
		"an entry far below the keys under it": func(s *sketch) { s.rekey(20, 0, "") },
		"an inner key above its entry's":       func(s *sketch) { s.rekey(21, 0, "b"); s.rekey(20, 0, "a") },
		"the last key before the next entry":   func(s *sketch) { s.rekey(24, 1, "i\xFF\xFF") },
		"a leaf of two entries in two trees": func(s *sketch) {
			s.super.Roots = append(s.super.Roots, impl.Root{Tree: 7, Block: 24})
		},
		"two trees of one root": func(s *sketch) { s.super.Roots[1].Block = 20 },
		"an empty leaf as root": func(s *sketch) { s.nodes[30] = leaf() },
		"a child in another tree too": func(s *sketch) {
			s.nodes[30] = inner(child("", 23), child("k", 27))
		},
		"a child under another key in another tree": func(s *sketch) {
			s.nodes[30] = inner(child("b", 23), child("c\x00", 25), child("l", 26))
		},
		"a longer chain than is needed": func(s *sketch) { s.chain = []int64{40, 50} },
		"a chain that is far longer":    func(s *sketch) { s.chain = []int64{63, 2, 41, 40, 9, 3} },
	}
}

// brokenTrees have right tables all the same: so the tree alone is at fault.
func brokenTrees() map[string]func(s *sketch) {
	out := map[string]func(s *sketch){
		"one child twice in a node":       func(s *sketch) { s.rename(21, 1, 23) },
		"one child under two nodes":       func(s *sketch) { s.rename(22, 0, 24) },
		"one inner child twice":           func(s *sketch) { s.rename(20, 1, 21) },
		"a child that is the root":        func(s *sketch) { s.rename(21, 1, 20) },
		"a child that is the node itself": func(s *sketch) { s.rename(21, 0, 21) },
		"two nodes under each other":      func(s *sketch) { s.rename(21, 0, 22); s.rename(22, 0, 21) },
		"a root that is its own child":    func(s *sketch) { s.rename(20, 0, 20) },
		"a leaf beside an inner node":     func(s *sketch) { s.rename(20, 1, 25) },
		"an inner node beside leaves": func(s *sketch) {
			s.nodes[31] = inner(child("p", 32), child("q", 33))
			s.nodes[32] = leaf(item("p", ""), item("p1", ""))
			s.nodes[33] = leaf(item("q", ""), item("r", ""))
			s.rename(22, 2, 31)
		},
		"a leaf of one entry":                 func(s *sketch) { s.nodes[24] = leaf(item("e", "")) },
		"the last leaf of one entry":          func(s *sketch) { s.nodes[27] = leaf(item("p", "")) },
		"a leaf of none":                      func(s *sketch) { s.nodes[24] = leaf() },
		"an inner root of one entry":          func(s *sketch) { s.nodes[20] = inner(child("b", 21)) },
		"an inner node of one entry":          func(s *sketch) { s.nodes[21] = inner(child("b", 23)) },
		"an inner root of none":               func(s *sketch) { s.nodes[30] = inner() },
		"a key below its entry":               func(s *sketch) { s.rekey(24, 0, "d\xFF") },
		"a key below its entry, first child":  func(s *sketch) { s.rekey(23, 0, "a\xFF") },
		"a key that is the next entry's":      func(s *sketch) { s.rekey(23, 1, "e") },
		"a key above the next entry's":        func(s *sketch) { s.rekey(23, 1, "ee") },
		"a key that is the entry's above":     func(s *sketch) { s.rekey(24, 1, "j") },
		"a key above the entry's above":       func(s *sketch) { s.rekey(24, 1, "z") },
		"an inner key below its entry":        func(s *sketch) { s.rekey(22, 0, "i\xFF") },
		"an inner key below the first entry":  func(s *sketch) { s.rekey(21, 0, "") },
		"an inner key that is the next one's": func(s *sketch) { s.nodes[21] = inner(child("b", 23), child("j", 24)) },
		"a leaf's keys under an inner key above both": func(s *sketch) {
			s.rekey(21, 1, "k")
			s.nodes[24] = leaf(item("k", ""), item("l", ""))
		},
		"keys that only another tree allows": func(s *sketch) { s.nodes[30] = inner(child("b", 23), child("q", 27)) },
		"the second tree is broken":          func(s *sketch) { s.nodes[30] = inner(child("b", 23), child("c", 24)) },
		"equal keys in a leaf":               func(s *sketch) { s.rekey(27, 1, "p") },
		"falling keys in a root":             func(s *sketch) { s.rekey(20, 0, "k") },
	}
	for _, block := range []int64{23, 25, 27} {
		out[fmt.Sprintf("leaf %d is blank", block)] = func(s *sketch) { delete(s.nodes, block) }
	}
	return out
}

// brokenNames name blocks that no tree may name; the table counts what can be counted.
func brokenNames() map[string]func(disk []byte, s *sketch) {
	out := map[string]func(disk []byte, s *sketch){}
	for _, to := range []int64{0, 1, sketchBlocks, sketchBlocks + 1, impl.MaxBlocks - 1, impl.MaxBlocks, 65535, 40, 50} {
		out[fmt.Sprintf("root %d", to)] = func(disk []byte, s *sketch) {
			s.super.Roots[1].Block = to
			copy(rawAt(disk, s.super.Generation%2), laySuper(s.super).bytes)
		}
		out[fmt.Sprintf("child %d", to)] = func(disk []byte, s *sketch) {
			s.rename(22, 1, to)
			copy(rawAt(disk, 22), layNode(s.nodes[22]).bytes)
		}
		out[fmt.Sprintf("table %d", to)] = func(disk []byte, s *sketch) {
			if to == 40 {
				to = 20
			}
			s.super.Table = to
			copy(rawAt(disk, s.super.Generation%2), laySuper(s.super).bytes)
		}
		out[fmt.Sprintf("next of the table %d", to)] = func(disk []byte, s *sketch) {
			if to == 0 {
				to = 23
			}
			copy(rawAt(disk, 40), layTable(impl.Table{Next: to, Runs: s.rightTables()[0].Runs}).bytes)
		}
	}
	return out
}

// brokenSupers are not the superblock of this place.
func brokenSupers() map[string]func(disk []byte, s *sketch) {
	again := func(change func(s *impl.Super)) func(disk []byte, s *sketch) {
		return func(disk []byte, s *sketch) {
			slot := s.super.Generation % 2
			change(&s.super)
			copy(rawAt(disk, slot), laySuper(s.super).bytes)
		}
	}
	out := map[string]func(disk []byte, s *sketch){
		"one block more":                again(func(s *impl.Super) { s.Blocks++ }),
		"one block fewer":               again(func(s *impl.Super) { s.Blocks-- }),
		"the greatest number of blocks": again(func(s *impl.Super) { s.Blocks = 512 }),
		"the next generation":           again(func(s *impl.Super) { s.Generation++ }),
		"the generation before":         again(func(s *impl.Super) { s.Generation-- }),
		"generation 0":                  again(func(s *impl.Super) { s.Generation = 0 }),
		"a generation too great":        again(func(s *impl.Super) { s.Generation += 1 << 40 }),
		"no roots":                      again(func(s *impl.Super) { s.Roots = nil }),
		"a tree that is the next":       again(func(s *impl.Super) { s.Next = 5 }),
		"a node in the slot":            func(disk []byte, s *sketch) { copy(rawAt(disk, s.super.Generation%2), layNode(leaf()).bytes) },
		"a blank slot":                  func(disk []byte, s *sketch) { clear(rawAt(disk, s.super.Generation%2)) },
	}
	for _, bit := range []int{0, 8, 16, 32, 96, 112, 900, 992, 1023} {
		out[fmt.Sprintf("bit %d of the slot", bit)] = func(disk []byte, s *sketch) {
			rawAt(disk, s.super.Generation%2)[bit/8] ^= 1 << (bit % 8)
		}
	}
	return out
}

func brokenTables() map[string]func(s *sketch) {
	first := func(change func(runs []impl.Run) []impl.Run) func(s *sketch) {
		return func(s *sketch) {
			s.changeTables(func(tables []impl.Table) []impl.Table {
				tables[0].Runs = change(tables[0].Runs)
				return tables
			})
		}
	}
	next := func(chain []int64, to ...int64) func(s *sketch) {
		return func(s *sketch) {
			s.chain = chain
			s.changeTables(func(tables []impl.Table) []impl.Table {
				for j := range tables {
					tables[j].Next = to[j]
				}
				return tables
			})
		}
	}
	return map[string]func(s *sketch){
		"a table that names itself":           next([]int64{40}, 40),
		"a chain of two that goes round":      next([]int64{40, 41}, 41, 40),
		"a chain of three that goes round":    next([]int64{40, 41, 42}, 41, 42, 41),
		"a last block that names itself":      next([]int64{40, 41}, 41, 41),
		"a chain that ends in a node":         next([]int64{40}, 20),
		"a chain of two that ends in a leaf":  next([]int64{40, 41}, 41, 30),
		"a chain that leaves the device":      next([]int64{40}, sketchBlocks),
		"a chain that ends in a blank block":  next([]int64{40}, 50),
		"a chain that ends ahead of its runs": next([]int64{40, 41}, 0, 0),
		"the first run is left out":           first(func(runs []impl.Run) []impl.Run { return runs[1:] }),
		"the last run is left out":            first(func(runs []impl.Run) []impl.Run { return runs[:len(runs)-1] }),
		"a run in the midst is left out":      first(func(runs []impl.Run) []impl.Run { return slices.Delete(runs, 1, 2) }),
		"no run":                              first(func(runs []impl.Run) []impl.Run { return nil }),
		"a run too many behind":               first(func(runs []impl.Run) []impl.Run { return append(runs, impl.Run{Start: 60, Len: 1, Count: 1}) }),
		"a run too many ahead": first(func(runs []impl.Run) []impl.Run {
			return slices.Insert(runs, 0, impl.Run{Start: 2, Len: 1, Count: 1})
		}),
		"a count too great": first(func(runs []impl.Run) []impl.Run { runs[0].Count++; return runs }),
		"a count too small": first(func(runs []impl.Run) []impl.Run { runs[1].Count--; return runs }),
		"a table counted 2": first(func(runs []impl.Run) []impl.Run { runs[len(runs)-1].Count = 2; return runs }),
		"a run too long":    first(func(runs []impl.Run) []impl.Run { runs[len(runs)-1].Len++; return runs }),
		"a run too short":   first(func(runs []impl.Run) []impl.Run { runs[0].Len--; return runs }),
		"a run too early": first(func(runs []impl.Run) []impl.Run {
			runs[0].Start--
			runs[0].Len++
			return runs
		}),
		"a chain that is longer, and not counted": func(s *sketch) {
			right := s.rightTables()
			s.chain = []int64{40, 50}
			s.tables = []impl.Table{{Next: 50, Runs: right[0].Runs}, {}}
		},
	}
}

// spread are tables of manyRunsSketch, whose runs need more than one block.
func spread(change func(tables []impl.Table, all []impl.Run) []impl.Table) func(s *sketch) {
	return func(s *sketch) {
		s.changeTables(func(tables []impl.Table) []impl.Table {
			var all []impl.Run
			for _, table := range tables {
				all = append(all, table.Runs...)
			}
			return change(tables, all)
		})
	}
}

func brokenSpreads() map[string]func(s *sketch) {
	return map[string]func(s *sketch){
		"a run too far behind": spread(func(tables []impl.Table, all []impl.Run) []impl.Table {
			tables[0].Runs, tables[1].Runs = all[:19], all[19:]
			return tables
		}),
		"the first block empty": spread(func(tables []impl.Table, all []impl.Run) []impl.Table {
			tables[0].Runs, tables[1].Runs, tables[2].Runs = nil, all[:20], all[20:]
			return tables
		}),
		"an empty block in the midst": spread(func(tables []impl.Table, all []impl.Run) []impl.Table {
			tables[1].Runs, tables[2].Runs = nil, all[20:]
			return tables
		}),
		"two blocks in each other's place": spread(func(tables []impl.Table, all []impl.Run) []impl.Table {
			tables[0].Runs, tables[1].Runs = all[20:], all[:20]
			return tables
		}),
		"the first run of the second block is left out": spread(func(tables []impl.Table, all []impl.Run) []impl.Table {
			tables[1].Runs = all[21:]
			return tables
		}),
		"the last run is left out": spread(func(tables []impl.Table, all []impl.Run) []impl.Table {
			tables[1].Runs = all[20 : len(all)-1]
			return tables
		}),
		"the second block is empty": spread(func(tables []impl.Table, all []impl.Run) []impl.Table {
			tables[1].Runs = nil
			return tables
		}),
		"a run too many in the last block": spread(func(tables []impl.Table, all []impl.Run) []impl.Table {
			tables[2].Runs = []impl.Run{{Start: 62, Len: 2, Count: 1}}
			return tables
		}),
		"a run told again": spread(func(tables []impl.Table, all []impl.Run) []impl.Table {
			tables[2].Runs = all[len(all)-1:]
			return tables
		}),
		"another count in the second block": spread(func(tables []impl.Table, all []impl.Run) []impl.Table {
			tables[1].Runs = slices.Clone(all[20:])
			tables[1].Runs[0].Count = 2
			return tables
		}),
	}
}

// wantSpoilt looks at an image where the fault is in the greater generation: the other slot is mounted when it is sound, else nothing.
func wantSpoilt(t *testing.T, what string, make func(generation int64) *sketch, spoil func(disk []byte, s *sketch)) {
	t.Helper()
	for _, generation := range []int64{5, 6} {
		old := otherVolume(generation)
		before := old.draw(bytes.Repeat([]byte{0}, sketchBlocks*impl.BlockSize))
		s := make(generation + 1)
		disk := s.draw(before)
		spoil(disk, s)
		v, code := impl.Mount(disk)
		if code != impl.OK || v.Generation != generation || v.Slot != generation%2 {
			t.Errorf("%s, generation %d: code %d, volume %+v, want the one before", what, generation+1, code, v)
		}
		wantMount(t, what, disk)
		for blank, spoilt := range map[string][]byte{"blank": without(disk, generation%2), "with a bit turned": turned(disk, 11*128+3)} {
			if _, code := impl.Mount(spoilt); code != impl.ErrCorrupt {
				t.Errorf("%s, generation %d, the other slot %s: code %d", what, generation+1, blank, code)
			}
			wantMount(t, what, spoilt)
		}
	}
}

func turned(disk []byte, at int) []byte {
	out := bytes.Clone(disk)
	out[at] ^= 0x10
	return out
}

func asDrawn(disk []byte, s *sketch) {}

func TestSlotsThatAreSound(t *testing.T) {
	for name, change := range soundChanges() {
		for _, generation := range []int64{5, 6} {
			before := otherVolume(generation).draw(make([]byte, sketchBlocks*impl.BlockSize))
			s := threeTrees(generation + 1)
			change(s)
			disk := s.draw(before)
			v, code := impl.Mount(disk)
			if code != impl.OK || v.Generation != generation+1 || v.Slot != (generation+1)%2 || !slices.Equal(v.Table, s.chain) || !slices.Equal(v.Roots, s.super.Roots) || v.Next != 9 {
				t.Errorf("%s: code %d, volume %+v", name, code, v)
			}
			wantMount(t, name, disk)
			wantMount(t, name+", alone", without(disk, generation%2))
		}
	}
}

func drawnWith(plain func(generation int64) *sketch, change func(s *sketch)) func(generation int64) *sketch {
	return func(generation int64) *sketch {
		s := plain(generation)
		change(s)
		return s
	}
}

func TestBrokenTrees(t *testing.T) {
	for name, change := range brokenTrees() {
		wantSpoilt(t, name, drawnWith(threeTrees, change), asDrawn)
	}
}

func TestBrokenNames(t *testing.T) {
	for name, spoil := range brokenNames() {
		wantSpoilt(t, name, threeTrees, spoil)
	}
}

func TestBrokenSupers(t *testing.T) {
	for name, spoil := range brokenSupers() {
		wantSpoilt(t, name, threeTrees, spoil)
	}
}

func TestBrokenTables(t *testing.T) {
	for name, change := range brokenTables() {
		wantSpoilt(t, name, drawnWith(threeTrees, change), asDrawn)
	}
}

// A look that stops at the first fault must not take what it has counted so far for the whole.
func TestTablesThatCountBrokenTreesOut(t *testing.T) {
	for broken, counted := range [][]impl.Run{
		{{Start: 40, Len: 1, Count: 1}},
		{{Start: 20, Len: 1, Count: 1}, {Start: 40, Len: 1, Count: 1}},
		{{Start: 20, Len: 1, Count: 1}, {Start: 30, Len: 1, Count: 1}, {Start: 40, Len: 1, Count: 1}},
	} {
		wantSpoilt(t, "a tree that is not counted", drawnWith(threeTrees, func(s *sketch) {
			s.super.Roots[broken].Block = 50
			s.tables = []impl.Table{runs(counted...)}
		}), asDrawn)
	}
}

func chainOf(leaves int, chain ...int64) func(generation int64) *sketch {
	return func(generation int64) *sketch { return manyRunsSketch(generation, leaves, chain...) }
}

func TestTablesOverMoreBlocks(t *testing.T) {
	whole := chainOf(16, 63, 5, 3)
	for generation := range int64(4) {
		disk := whole(generation + 1).draw(make([]byte, sketchBlocks*impl.BlockSize))
		v, code := impl.Mount(disk)
		if code != impl.OK || !slices.Equal(v.Table, []int64{63, 5, 3}) {
			t.Fatalf("code %d, volume %+v", code, v)
		}
		wantMount(t, "three blocks", disk)
	}
	for name, change := range brokenSpreads() {
		wantSpoilt(t, name, drawnWith(whole, change), asDrawn)
	}
}

// Twelve leaves and four inner nodes are 16 runs, with k table blocks apart from all and each other 16 + k.
func TestChainsAtTheirLengths(t *testing.T) {
	full := chainOf(12, 3, 5, 7, 9)
	disk := full(1).draw(make([]byte, sketchBlocks*impl.BlockSize))
	wantMount(t, "twenty runs", disk)
	if table, _ := impl.DecodeTable(rawAt(disk, 3)); len(table.Runs) != 20 {
		t.Fatalf("the first block has %d runs, not 20", len(table.Runs))
	}
	if v, code := impl.Mount(disk); code != impl.OK || len(v.Table) != 4 {
		t.Errorf("twenty runs in the first block: code %d, volume %+v", code, v)
	}
	short := drawnWith(chainOf(16, 3), func(s *sketch) {
		if len(s.rightTables()[0].Runs) != 20 {
			t.Fatalf("the sketch does not have runs beyond its chain")
		}
	})
	wantSpoilt(t, "a chain too short", short, asDrawn)
}

// Two neighbouring table blocks are one run; told as two, one in either block, each table is in order by itself.
func TestRunCutAtTheEndOfBlock(t *testing.T) {
	wantSpoilt(t, "a run cut in two", func(generation int64) *sketch {
		s := manyRunsSketch(generation, 14, 62, 63)
		s.changeTables(func(tables []impl.Table) []impl.Table {
			last := len(tables[0].Runs) - 1
			if cut := tables[0].Runs[last]; last != 19 || cut != (impl.Run{Start: 62, Len: 2, Count: 1}) {
				t.Fatalf("run %d is %+v", last, cut)
			}
			tables[0].Runs[last].Len = 1
			tables[1].Runs = []impl.Run{{Start: 63, Len: 1, Count: 1}}
			return tables
		})
		return s
	}, asDrawn)
}

func TestGreaterGenerationIsMounted(t *testing.T) {
	for _, pair := range [][2]int64{{1, 2}, {2, 1}, {5, 1000}, {1000, 5}, {1<<40 - 1, 1 << 40}, {1 << 40, 1<<40 - 1}, {1 << 40, 1}, {255, 256}, {256, 255}, {1 << 32, 3}} {
		disk := otherVolume(pair[0]).draw(make([]byte, sketchBlocks*impl.BlockSize))
		disk = threeTrees(pair[1]).draw(disk)
		v, code := impl.Mount(disk)
		if want := max(pair[0], pair[1]); code != impl.OK || v.Generation != want || v.Slot != want%2 {
			t.Errorf("generations %v: code %d, volume %+v", pair, code, v)
		}
		wantMount(t, "two generations", disk)
		for slot := range int64(2) {
			wantMount(t, "one of two generations", without(disk, slot))
		}
	}
}

// deepest is a tree of eight levels: with a ninth it would have 511 nodes, more than a device has room for.
func deepest() *sketch {
	s := &sketch{
		super: impl.Super{Blocks: impl.MaxBlocks, Generation: 7, Next: 1, Roots: []impl.Root{{Tree: 0}}},
		nodes: map[int64]impl.Node{},
		chain: []int64{511},
	}
	s.super.Roots[0].Block = treeOver(s.nodes, from(2, 128), from(130, 127), 2)
	return s
}

func TestDeepestTree(t *testing.T) {
	disk := deepest().draw(make([]byte, impl.MaxBlocks*impl.BlockSize))
	v, code := impl.Mount(disk)
	if code != impl.OK || v.Live != 255 || v.Roots[0].Block != 256 || v.Free != 254 {
		t.Fatalf("code %d, volume %+v", code, v)
	}
	wantMount(t, "the deepest tree", disk)
	p := plainMount(disk).forest()
	if depth := slices.MaxFunc(p.shape(256, 0), func(a, b impl.NodeView) int { return int(a.Depth - b.Depth) }).Depth; depth != 7 {
		t.Fatalf("the tree is %d deep", depth)
	}
	ops := []impl.TreeOp{get(0, numberKey(0)), get(0, numberKey(255)), get(0, numberKey(256)), put(0, numberKey(256), "new"), clone(0)}
	for i := range 60 {
		ops = append(ops, del(0, numberKey(i*37%257)), put(1, numberKey(i*11%300), "again"))
	}
	disk = wantRun(t, "the deepest tree", disk, p, ops)
	wantMountedAs(t, "the deepest tree", disk, p)
}

func TestSixteenTrees(t *testing.T) {
	s := threeTrees(3)
	s.super.Roots, s.super.Next = nil, impl.MaxTreeID
	for i := range int64(impl.MaxTrees) {
		s.super.Roots = append(s.super.Roots, impl.Root{Tree: i * 4000, Block: []int64{20, 20, 21, 22, 23, 27, 30}[i%7]})
	}
	disk := s.draw(make([]byte, sketchBlocks*impl.BlockSize))
	wantMount(t, "sixteen trees", disk)
	v, code := impl.Mount(disk)
	if code != impl.OK || len(v.Roots) != 16 || v.Next != impl.MaxTreeID || v.Live != 9 {
		t.Fatalf("code %d, volume %+v", code, v)
	}
	ops := []impl.TreeOp{clone(0), drop(4000), clone(0), put(0, "a", ""), del(8000, "b"), put(12000, "k", ""), drop(16000), drop(20000), commit(), put(44000, "s", "t")}
	p := plainMount(disk).forest()
	disk = wantRun(t, "sixteen trees", disk, p, ops)
	wantMountedAs(t, "sixteen trees", disk, p)
}

// crowded fills the least device: a tree of three nodes, one of a leaf, and the table in what is left but for free blocks.
func crowded(free int) *sketch {
	return &sketch{
		super: impl.Super{Blocks: 8, Generation: 4, Next: 5, Roots: []impl.Root{{Tree: 1, Block: 2}, {Tree: 4, Block: 3}}},
		nodes: map[int64]impl.Node{
			2: inner(child("a", 3), child("c", 4)),
			3: leaf(item("a", "1"), item("b", "2")),
			4: leaf(item("c", "3"), item("d", "4")),
		},
		chain: from(5, 3-free),
	}
}

func TestVolumesWithFewFreeBlocks(t *testing.T) {
	for free := range 3 {
		disk := crowded(free).draw(make([]byte, 8*impl.BlockSize))
		v, code := impl.Mount(disk)
		if code != impl.OK || v.Free != int64(free) {
			t.Fatalf("%d free: code %d, volume %+v", free, code, v)
		}
		for _, ops := range [][]impl.TreeOp{
			nil,
			{commit()},
			{put(1, "x", ""), del(1, "a"), get(1, "d"), clone(4), drop(1), commit(), put(4, "x", ""), commit(), put(4, "x", "")},
			{drop(4), commit(), commit(), drop(1), put(1, "x", "y")},
		} {
			p := plainMount(disk).forest()
			out := wantRun(t, "few free blocks", disk, p, ops)
			if free == 0 && !bytes.Equal(out, disk) {
				t.Errorf("a commit found room where none was")
			}
		}
	}
	_, steps, _ := impl.VolumeRun(crowded(0).draw(make([]byte, 8*impl.BlockSize)), nil)
	if len(steps) != 0 {
		t.Errorf("a refused commit has %d steps", len(steps))
	}
}

// One block is free, and the nodes are more runs than one table block holds; the drop of a tree leaves few enough.
func TestCommitAfterRefusedCommit(t *testing.T) {
	s := &sketch{
		super: impl.Super{Blocks: 64, Generation: 9, Next: 2, Roots: []impl.Root{{Tree: 0}, {Tree: 1, Block: 62}}},
		nodes: map[int64]impl.Node{62: leaf(item("only", "one"))},
	}
	var even []int64
	for b := int64(2); b < 62; b += 2 {
		even = append(even, b)
		s.chain = append(s.chain, b+1)
	}
	s.super.Roots[0].Block = treeOver(s.nodes, even[:24], even[24:], 5)
	disk := s.draw(make([]byte, 64*impl.BlockSize))
	p := plainMount(disk).forest()
	ops := []impl.TreeOp{commit(), drop(0), commit(), put(1, "more", "x"), commit()}
	answers, steps, _ := impl.VolumeRun(disk, ops)
	codes := []int64{}
	for _, a := range answers {
		codes = append(codes, a.Code)
	}
	if !slices.Equal(codes, []int64{impl.ErrNoSpace, impl.OK, impl.OK, impl.OK, impl.OK, impl.OK}) {
		t.Errorf("codes %v", codes)
	}
	if places := stepPlaces(steps); !slices.Equal(places[:4], []int64{63, -1, 0, -1}) {
		t.Errorf("steps %v", places)
	}
	disk = wantRun(t, "a commit after a refused one", disk, p, ops)
	wantMountedAs(t, "a commit after a refused one", disk, p)
}

// 20 nodes lie apart. With block 2 alone the plan has 21 runs; block 13 makes one of its two neighbours' runs, and then has none to hold.
func TestTableWhoseLastBlockIsEmpty(t *testing.T) {
	disk := manyRunsSketch(1, 15, from(3, 9)...).draw(make([]byte, sketchBlocks*impl.BlockSize))
	wantMount(t, "before", disk)
	p := plainMount(disk).forest()
	_, steps, _ := impl.VolumeRun(disk, nil)
	if places := stepPlaces(steps); !slices.Equal(places, []int64{2, 13, -1, 0, -1}) {
		t.Fatalf("steps %v", places)
	}
	if last, code := impl.DecodeTable(steps[1].Data); code != impl.OK || len(last.Runs) != 0 || last.Next != 0 {
		t.Errorf("the last block of the table: code %d, %+v", code, last)
	}
	disk = wantRun(t, "an empty block at the end", disk, p, nil)
	wantMountedAs(t, "an empty block at the end", disk, p)
	if v, code := impl.Mount(disk); code != impl.OK || v.Generation != 2 || !slices.Equal(v.Table, []int64{2, 13}) {
		t.Errorf("code %d, volume %+v", code, v)
	}
}

func TestGreatestGeneration(t *testing.T) {
	last := otherVolume(1<<40 - 1).draw(make([]byte, sketchBlocks*impl.BlockSize))
	p := plainMount(last).forest()
	ops := []impl.TreeOp{put(0, "a", "b"), commit(), put(0, "c", "d"), get(0, "c"), commit()}
	answers, steps, code := impl.VolumeRun(last, ops)
	wantCode(t, "VolumeRun", code, impl.OK)
	if answers[1].Code != impl.OK || answers[2].Code != impl.OK || answers[4] != refused(impl.ErrLimit) || answers[5] != refused(impl.ErrLimit) {
		t.Errorf("answers %v", answers)
	}
	if places := stepPlaces(steps); len(places) != 5 || places[3] != 0 {
		t.Errorf("steps %v", places)
	}
	disk := wantRun(t, "the last generation", last, p, ops)
	if v, _ := impl.Mount(disk); v.Generation != 1<<40 || v.Slot != 0 {
		t.Errorf("volume %+v", v)
	}
	answers, steps, code = impl.VolumeRun(disk, nil)
	if code != impl.OK || len(steps) != 0 || !slices.Equal(answers, []impl.TreeAns{refused(impl.ErrLimit)}) {
		t.Errorf("beyond the last generation: code %d, answers %v, %d steps", code, answers, len(steps))
	}
}

// spoilBlock changes one field of one block and seals it anew.
func spoilBlock(r *rand.Rand, disk []byte) {
	blocks := blocksIn(disk)
	b := r.Int63n(blocks)
	raw := rawAt(disk, b)
	if super, code := impl.DecodeSuper(raw); code == impl.OK {
		copy(raw, laySuper(spoilSuper(r, super)).bytes)
	} else if table, code := impl.DecodeTable(raw); code == impl.OK {
		copy(raw, layTable(spoilTable(r, table, blocks)).bytes)
	} else if n, code := impl.DecodeNode(raw); code == impl.OK {
		copy(raw, layNode(spoilNode(r, n, blocks)).bytes)
	}
}

func spoilSuper(r *rand.Rand, s impl.Super) impl.Super {
	at := r.Intn(len(s.Roots))
	switch r.Intn(5) {
	case 0:
		s.Generation += r.Int63n(5) - 2
	case 1:
		s.Table = r.Int63n(s.Blocks + 1)
	case 2:
		s.Roots[at].Block = r.Int63n(s.Blocks + 1)
	case 3:
		s.Roots = slices.Delete(s.Roots, at, at+1)
	case 4:
		s.Roots[at].Block = s.Roots[r.Intn(len(s.Roots))].Block
	}
	return s
}

func spoilTable(r *rand.Rand, table impl.Table, blocks int64) impl.Table {
	if r.Intn(3) == 0 || len(table.Runs) == 0 {
		table.Next = r.Int63n(blocks + 1)
		return table
	}
	run := &table.Runs[r.Intn(len(table.Runs))]
	switch r.Intn(3) {
	case 0:
		run.Start += r.Int63n(3) - 1
	case 1:
		run.Len += r.Int63n(3) - 1
	case 2:
		run.Count += r.Int63n(3) - 1
	}
	return table
}

func spoilNode(r *rand.Rand, n impl.Node, blocks int64) impl.Node {
	if len(n.Entries) == 0 {
		return n
	}
	at := r.Intn(len(n.Entries))
	switch {
	case r.Intn(3) == 0:
		n.Entries = slices.Delete(n.Entries, at, at+1)
	case n.Kind == impl.KindInner && r.Intn(2) == 0:
		n.Entries[at].Child = r.Int63n(blocks + 1)
	case len(n.Entries[at].Key) > 0:
		key := []byte(n.Entries[at].Key)
		key[len(key)-1] += byte(r.Intn(5) - 2)
		n.Entries[at].Key = string(key)
	}
	return n
}

// Images whose blocks are all well sealed, so that nothing but the look at the whole can tell what is wrong.
func TestRandomSpoiltImages(t *testing.T) {
	r := rand.New(rand.NewSource(13))
	images := [][]byte{oldVolume(t, 24)}
	for _, row := range someRows(14, 150) {
		disk := fresh(t, row.blocks)
		for piece := range slices.Chunk(row.ops, 50) {
			disk = after(t, disk, piece...)
		}
		images = append(images, disk)
	}
	images = append(images, threeTrees(8).draw(otherVolume(7).draw(make([]byte, sketchBlocks*impl.BlockSize))))
	codes := map[int64]int{}
	for range 6000 {
		disk := bytes.Clone(images[r.Intn(len(images))])
		for range 1 + r.Intn(4) {
			spoilBlock(r, disk)
		}
		wantMount(t, "spoilt", disk)
		_, code := impl.Mount(disk)
		codes[code]++
	}
	if codes[impl.OK] < 500 || codes[impl.ErrCorrupt] < 500 {
		t.Errorf("the images are all of one kind: %v", codes)
	}
}

func TestRandomBytesDoNotMount(t *testing.T) {
	r := rand.New(rand.NewSource(15))
	for range 200 {
		disk := make([]byte, (8+r.Int63n(100))*impl.BlockSize)
		r.Read(disk)
		wantMount(t, "random bytes", disk)
		for b := range blocksIn(disk) {
			raw := rawAt(disk, b)
			raw[0] = byte(1 + r.Intn(4))
			raw[1] = byte(r.Intn(6))
			copy(raw, reseal(raw))
		}
		wantMount(t, "random sealed bytes", disk)
	}
}

// The trees that another hand drew are changed by the same rules.
func TestOperationsOnDrawnVolumes(t *testing.T) {
	r := rand.New(rand.NewSource(16))
	for name, change := range soundChanges() {
		s := threeTrees(3)
		change(s)
		disk := s.draw(make([]byte, sketchBlocks*impl.BlockSize))
		p := plainMount(disk).forest()
		for range 6 {
			ops := slices.Concat(opsOn(r, p.roots, 12), []impl.TreeOp{commit()}, opsOn(r, p.roots, 12))
			disk = wantRun(t, name, disk, p, ops)
			wantMountedAs(t, name, disk, p)
		}
	}
}
