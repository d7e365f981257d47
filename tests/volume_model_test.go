package tests

import (
	"bytes"
	"slices"

	"loop.example/s01595/impl"
)

func rawAt(disk []byte, block int64) []byte {
	return disk[block*impl.BlockSize:][:impl.BlockSize]
}

func blocksIn(disk []byte) int64 {
	return int64(len(disk)) / impl.BlockSize
}

// plainVolume is what the look at one slot finds, point by point as chapter 5 lists them.
type plainVolume struct {
	slot   int64
	super  impl.Super
	nodes  map[int64]impl.Node
	chain  []int64
	tables []impl.Table
}

// level decodes the blocks of one level of a tree; false when one may not stand there.
func (v *plainVolume) level(disk []byte, blocks []int64, seen map[int64]int, root bool) ([]impl.Node, bool) {
	var out []impl.Node
	for _, b := range blocks {
		if b < 2 || b >= blocksIn(disk) || seen[b] > 0 {
			return nil, false
		}
		seen[b] = 1
		n, code := impl.DecodeNode(rawAt(disk, b))
		if code != impl.OK || !root && len(n.Entries) < 2 || n.Kind == impl.KindInner && len(n.Entries) < 2 {
			return nil, false
		}
		v.nodes[b] = n
		out = append(out, n)
	}
	return out, true
}

// levels goes down level by level: each is all leaves or all inner nodes.
func (v *plainVolume) levels(disk []byte, root int64) bool {
	seen := map[int64]int{}
	for at, blocks := 0, []int64{root}; ; at++ {
		nodes, good := v.level(disk, blocks, seen, at == 0)
		if !good {
			return false
		}
		blocks = nil
		leaves := 0
		for _, n := range nodes {
			if n.Kind == impl.KindLeaf {
				leaves++
				continue
			}
			for _, e := range n.Entries {
				blocks = append(blocks, e.Child)
			}
		}
		if leaves > 0 {
			return leaves == len(nodes)
		}
	}
}

func (v *plainVolume) keysFrom(block int64) []string {
	var keys []string
	for _, e := range v.nodes[block].Entries {
		keys = append(keys, e.Key)
		if v.nodes[block].Kind == impl.KindInner {
			keys = append(keys, v.keysFrom(e.Child)...)
		}
	}
	return keys
}

// keysFit looks from every entry at every key of every node below it.
func (v *plainVolume) keysFit() bool {
	for _, n := range v.nodes {
		for i, e := range n.Entries {
			if n.Kind != impl.KindInner {
				continue
			}
			for _, k := range v.keysFrom(e.Child) {
				if k < e.Key || i+1 < len(n.Entries) && k >= n.Entries[i+1].Key {
					return false
				}
			}
		}
	}
	return true
}

func (v *plainVolume) follow(disk []byte) bool {
	for b := v.super.Table; b != 0; {
		if b < 2 || b >= blocksIn(disk) || slices.Contains(v.chain, b) {
			return false
		}
		table, code := impl.DecodeTable(rawAt(disk, b))
		if code != impl.OK {
			return false
		}
		v.chain = append(v.chain, b)
		v.tables = append(v.tables, table)
		b = table.Next
	}
	return true
}

// current is the count of each block by its names alone.
func (v *plainVolume) current() []int64 {
	out := make([]int64, v.super.Blocks)
	for _, r := range v.super.Roots {
		out[r.Block]++
	}
	for _, n := range v.nodes {
		for _, e := range n.Entries {
			if n.Kind == impl.KindInner {
				out[e.Child]++
			}
		}
	}
	return out
}

func (v *plainVolume) committed() []int64 {
	out := v.current()
	for _, b := range v.chain {
		out[b] = 1
	}
	return out
}

// toldRight wants run number i in block i / 20 of the chain, at place i mod 20, and nothing else there.
func (v *plainVolume) toldRight() bool {
	want := plainRuns(v.committed())
	told := 0
	for j, table := range v.tables {
		for i, r := range table.Runs {
			if 20*j+i >= len(want) || want[20*j+i] != r {
				return false
			}
			told++
		}
	}
	return told == len(want)
}

func plainSlot(disk []byte, slot int64) *plainVolume {
	super, code := impl.DecodeSuper(rawAt(disk, slot))
	if code != impl.OK || super.Blocks != blocksIn(disk) || super.Generation%2 != slot {
		return nil
	}
	v := &plainVolume{slot: slot, super: super, nodes: map[int64]impl.Node{}}
	for _, r := range super.Roots {
		if !v.levels(disk, r.Block) {
			return nil
		}
	}
	if !v.keysFit() || !v.follow(disk) || !v.toldRight() {
		return nil
	}
	return v
}

// plainMount is nil when neither slot is sound.
func plainMount(disk []byte) *plainVolume {
	zero, one := plainSlot(disk, 0), plainSlot(disk, 1)
	if zero == nil || one != nil && one.super.Generation > zero.super.Generation {
		return one
	}
	return zero
}

func (v *plainVolume) volume() impl.Volume {
	live, pinned := int64(len(v.nodes)), int64(len(v.chain))
	return impl.Volume{
		Slot:       v.slot,
		Generation: v.super.Generation,
		Next:       v.super.Next,
		Roots:      v.super.Roots,
		Table:      v.chain,
		Live:       live,
		Pinned:     pinned,
		Free:       v.super.Blocks - 2 - live - pinned,
	}
}

func (v *plainVolume) forest() *plainForest {
	return (&plainForest{
		roots:      v.super.Roots,
		next:       v.super.Next,
		generation: v.super.Generation,
		nodes:      v.nodes,
		com:        v.committed(),
	}).copied()
}

func sameVolume(a, b impl.Volume) bool {
	return a.Slot == b.Slot && a.Generation == b.Generation && a.Next == b.Next && slices.Equal(a.Roots, b.Roots) &&
		slices.Equal(a.Table, b.Table) && a.Live == b.Live && a.Pinned == b.Pinned && a.Free == b.Free
}

func sameSteps(a, b []impl.Step) bool {
	return slices.EqualFunc(a, b, func(x, y impl.Step) bool {
		return x.Kind == y.Kind && x.Block == y.Block && bytes.Equal(x.Data, y.Data)
	})
}

func copySteps(steps []impl.Step) []impl.Step {
	out := slices.Clone(steps)
	for i := range out {
		out[i].Data = bytes.Clone(out[i].Data)
	}
	return out
}

func writing(block int64, l layout) impl.Step {
	return impl.Step{Kind: impl.StepWrite, Block: block, Data: l.bytes}
}

func flushing() impl.Step {
	return impl.Step{Kind: impl.StepFlush}
}

// tablesOf spreads runs over the blocks of a chain, as many to each as it takes.
func tablesOf(chain []int64, runs []impl.Run) []impl.Table {
	out := make([]impl.Table, len(chain))
	for i, r := range runs {
		if i/20 < len(out) {
			out[i/20].Runs = append(out[i/20].Runs, r)
		}
	}
	for j := range len(out) - 1 {
		out[j].Next = chain[j+1]
	}
	return out
}

// commitSteps is what a commit now would do to the device: nothing when it is refused.
func (p *plainForest) commitSteps() []impl.Step {
	cur := p.counts()
	plan, planned, code := plainPlan(cur, p.com)
	if p.generation == 1<<40 || code != impl.OK {
		return nil
	}
	var steps []impl.Step
	for b, count := range cur {
		if count > 0 && p.com[b] == 0 {
			steps = append(steps, writing(int64(b), layNode(p.nodes[int64(b)])))
		}
	}
	for j, table := range tablesOf(plan, planned) {
		steps = append(steps, writing(plan[j], layTable(table)))
	}
	super := impl.Super{Blocks: int64(len(cur)), Generation: p.generation + 1, Next: p.next, Table: plan[0], Roots: p.roots}
	return append(steps, flushing(), writing(super.Generation%2, laySuper(super)), flushing())
}

// run is what VolumeRun has to answer.
func (p *plainForest) run(ops []impl.TreeOp) ([]impl.TreeAns, []impl.Step) {
	var answers []impl.TreeAns
	var steps []impl.Step
	for _, op := range append(slices.Clone(ops), commit()) {
		if op.Kind == impl.OpCommit {
			steps = append(steps, p.commitSteps()...)
		}
		answers = append(answers, p.do(op))
	}
	return answers, steps
}

// sketch is a volume drawn by hand. Its table says the right counts, unless tables is filled in.
type sketch struct {
	super  impl.Super
	nodes  map[int64]impl.Node
	chain  []int64
	tables []impl.Table
}

func (s *sketch) rightTables() []impl.Table {
	v := plainVolume{super: s.super, nodes: s.nodes, chain: s.chain}
	return tablesOf(s.chain, plainRuns(v.committed()))
}

// draw puts the sketch over a copy of an image.
func (s *sketch) draw(onto []byte) []byte {
	disk := bytes.Clone(onto)
	for b, n := range s.nodes {
		copy(rawAt(disk, b), layNode(n).bytes)
	}
	tables := s.tables
	if tables == nil {
		tables = s.rightTables()
	}
	for j, b := range s.chain {
		copy(rawAt(disk, b), layTable(tables[j]).bytes)
	}
	s.super.Table = s.chain[0]
	copy(rawAt(disk, s.super.Generation%2), laySuper(s.super).bytes)
	return disk
}

// treeOver lays a tree whose leaves are these blocks, two items each, and whose inner nodes of that many entries take their blocks from the others; it gives the root.
func treeOver(nodes map[int64]impl.Node, leaves, others []int64, fan int) int64 {
	level := slices.Clone(leaves)
	first := map[int64]string{}
	for i, b := range level {
		first[b] = numberKey(2 * i)
		nodes[b] = leaf(item(numberKey(2*i), "even"), item(numberKey(2*i+1), "odd"))
	}
	for len(level) > 1 {
		var above []int64
		for group := range slices.Chunk(level, fan) {
			n := inner()
			for _, b := range group {
				n.Entries = append(n.Entries, child(first[b], b))
			}
			b := others[0]
			others = others[1:]
			nodes[b] = n
			first[b] = first[group[0]]
			above = append(above, b)
		}
		level = above
	}
	return level[0]
}

// from gives as many numbers as asked, rising by one.
func from(first int64, number int) []int64 {
	out := make([]int64, number)
	for i := range out {
		out[i] = first + int64(i)
	}
	return out
}
