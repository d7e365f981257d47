package tests

import (
	"slices"

	"loop.example/s01595/impl"
)

// plainForest follows chapter 4 the slow way: no count is kept, each is told anew from what names what, and a refused operation is undone from a copy of all.
type plainForest struct {
	roots      []impl.Root
	next       int64
	generation int64
	nodes      map[int64]impl.Node
	com        []int64
}

func newPlainForest(blocks int64) *plainForest {
	p := &plainForest{
		roots:      []impl.Root{{Tree: 0, Block: 2}},
		next:       1,
		generation: 1,
		nodes:      map[int64]impl.Node{2: leaf()},
		com:        make([]int64, blocks),
	}
	p.com[2], p.com[3] = 1, 1
	return p
}

func (p *plainForest) copied() *plainForest {
	q := *p
	q.roots = slices.Clone(p.roots)
	q.com = slices.Clone(p.com)
	q.nodes = map[int64]impl.Node{}
	for b, n := range p.nodes {
		q.nodes[b] = impl.Node{Kind: n.Kind, Entries: slices.Clone(n.Entries)}
	}
	return &q
}

// nameOf is what names a node: an entry of a block, or a root when the block is 0.
type nameOf struct {
	block int64
	at    int
}

func (p *plainForest) named(n nameOf) int64 {
	if n.block == 0 {
		return p.roots[n.at].Block
	}
	return p.nodes[n.block].Entries[n.at].Child
}

func (p *plainForest) rename(n nameOf, block int64) {
	if n.block == 0 {
		p.roots[n.at].Block = block
	} else {
		p.nodes[n.block].Entries[n.at].Child = block
	}
}

func (p *plainForest) counts() []int64 {
	out := make([]int64, len(p.com))
	var walk func(block int64)
	walk = func(block int64) {
		out[block]++
		if out[block] > 1 || p.nodes[block].Kind == impl.KindLeaf {
			return
		}
		for _, e := range p.nodes[block].Entries {
			walk(e.Child)
		}
	}
	for _, r := range p.roots {
		walk(r.Block)
	}
	return out
}

// take is 0 when no block is free; held is a block that is taken and not named yet.
func (p *plainForest) take(held int64) int64 {
	for _, b := range plainFree(p.counts(), p.com) {
		if b != held {
			return b
		}
	}
	return 0
}

func (p *plainForest) shadow(n nameOf) bool {
	block := p.named(n)
	if p.counts()[block] == 1 && p.com[block] == 0 {
		return true
	}
	q := p.take(0)
	if q == 0 {
		return false
	}
	old := p.nodes[block]
	p.nodes[q] = impl.Node{Kind: old.Kind, Entries: slices.Clone(old.Entries)}
	p.rename(n, q)
	return true
}

// split leaves three entries in a block of five and lays two into another.
func (p *plainForest) split(block, q int64) (string, string) {
	n := p.nodes[block]
	p.nodes[block] = impl.Node{Kind: n.Kind, Entries: slices.Clone(n.Entries[:3])}
	p.nodes[q] = impl.Node{Kind: n.Kind, Entries: slices.Clone(n.Entries[3:])}
	return n.Entries[0].Key, n.Entries[3].Key
}

func entryPlace(entries []impl.Entry, key string) int {
	at := 0
	for i, e := range entries {
		if e.Key <= key {
			at = i
		}
	}
	return at
}

func (p *plainForest) put(tree int, key, val string) bool {
	root := nameOf{0, tree}
	if !p.shadow(root) {
		return false
	}
	block := p.named(root)
	if len(p.nodes[block].Entries) == 5 {
		q := p.take(0)
		r := p.take(q)
		if q == 0 || r == 0 {
			return false
		}
		low, high := p.split(block, q)
		p.nodes[r] = inner(child(low, block), child(high, q))
		p.rename(root, r)
		block = r
	}
	for p.nodes[block].Kind == impl.KindInner {
		block = p.putBelow(block, key)
		if block == 0 {
			return false
		}
	}
	p.putIntoLeaf(block, key, val)
	return true
}

func (p *plainForest) putBelow(c int64, key string) int64 {
	entries := p.nodes[c].Entries
	if key < entries[0].Key {
		entries[0].Key = key
	}
	at := entryPlace(entries, key)
	if !p.shadow(nameOf{c, at}) {
		return 0
	}
	below := entries[at].Child
	if len(p.nodes[below].Entries) < 5 {
		return below
	}
	q := p.take(0)
	if q == 0 {
		return 0
	}
	_, high := p.split(below, q)
	p.nodes[c] = inner(slices.Insert(slices.Clone(entries), at+1, child(high, q))...)
	if key >= high {
		return q
	}
	return below
}

func (p *plainForest) putIntoLeaf(block int64, key, val string) {
	kept := slices.DeleteFunc(slices.Clone(p.nodes[block].Entries), func(e impl.Entry) bool { return e.Key == key })
	kept = append(kept, item(key, val))
	slices.SortFunc(kept, func(a, b impl.Entry) int {
		if a.Key < b.Key {
			return -1
		}
		return 1
	})
	p.nodes[block] = leaf(kept...)
}

func (p *plainForest) remove(tree int, key string) bool {
	root := nameOf{0, tree}
	if !p.shadow(root) {
		return false
	}
	block := p.named(root)
	for p.nodes[block].Kind == impl.KindInner {
		below := p.removeBelow(block, key)
		if below == 0 {
			return false
		}
		if len(p.nodes[block].Entries) == 1 {
			p.rename(root, below)
		}
		block = below
	}
	p.nodes[block] = leaf(slices.DeleteFunc(slices.Clone(p.nodes[block].Entries), func(e impl.Entry) bool { return e.Key == key })...)
	return true
}

func (p *plainForest) removeBelow(c int64, key string) int64 {
	entries := p.nodes[c].Entries
	at := entryPlace(entries, key)
	if !p.shadow(nameOf{c, at}) {
		return 0
	}
	below := entries[at].Child
	if len(p.nodes[below].Entries) > 2 {
		return below
	}
	if at+1 < len(entries) {
		if !p.fillRight(c, at) {
			return 0
		}
	} else if !p.fillLeft(c, at) {
		return 0
	}
	return below
}

func (p *plainForest) setEntries(block int64, lists ...[]impl.Entry) {
	p.nodes[block] = impl.Node{Kind: p.nodes[block].Kind, Entries: slices.Concat(lists...)}
}

func (p *plainForest) fillRight(c int64, at int) bool {
	entries := p.nodes[c].Entries
	below, s := entries[at].Child, entries[at+1].Child
	mine, other := p.nodes[below].Entries, p.nodes[s].Entries
	if len(other) == 2 {
		p.setEntries(below, mine, other)
		p.setEntries(c, entries[:at+1], entries[at+2:])
		return true
	}
	if !p.shadow(nameOf{c, at + 1}) {
		return false
	}
	s = entries[at+1].Child
	p.setEntries(below, mine, other[:1])
	p.setEntries(s, other[1:])
	entries[at+1].Key = other[1].Key
	return true
}

func (p *plainForest) fillLeft(c int64, at int) bool {
	entries := p.nodes[c].Entries
	below, s := entries[at].Child, entries[at-1].Child
	mine, other := p.nodes[below].Entries, p.nodes[s].Entries
	if len(other) == 2 {
		p.setEntries(below, other, mine)
		p.setEntries(c, entries[:at-1], []impl.Entry{child(entries[at-1].Key, below)})
		return true
	}
	if !p.shadow(nameOf{c, at - 1}) {
		return false
	}
	s = entries[at-1].Child
	last := len(other) - 1
	p.setEntries(below, other[last:], mine)
	p.setEntries(s, other[:last])
	entries[at].Key = other[last].Key
	return true
}

func (p *plainForest) items(block int64) []impl.Item {
	out := []impl.Item{}
	for _, e := range p.nodes[block].Entries {
		if p.nodes[block].Kind == impl.KindInner {
			out = append(out, p.items(e.Child)...)
		} else {
			out = append(out, impl.Item{Key: e.Key, Val: e.Val})
		}
	}
	return out
}

func (p *plainForest) shape(block, depth int64) []impl.NodeView {
	n := p.nodes[block]
	out := []impl.NodeView{{Block: block, Depth: depth, Kind: n.Kind, Entries: int64(len(n.Entries)), Count: p.counts()[block]}}
	for _, e := range n.Entries {
		if n.Kind == impl.KindInner {
			out = append(out, p.shape(e.Child, depth+1)...)
		}
	}
	return out
}

func (p *plainForest) value(tree int, key string) (string, bool) {
	for _, i := range p.items(p.roots[tree].Block) {
		if i.Key == key {
			return i.Val, true
		}
	}
	return "", false
}

func (p *plainForest) free() int64 {
	return int64(len(plainFree(p.counts(), p.com)))
}

func (p *plainForest) reserve() int64 {
	return int64(len(p.com)+17) / 20 * 2
}

// whole undoes a change that was refused or left too few free blocks.
func (p *plainForest) whole(change func() bool) int64 {
	before := p.copied()
	if change() && p.free() >= p.reserve() {
		return impl.OK
	}
	*p = *before
	return impl.ErrNoSpace
}

func (p *plainForest) treePlace(tree int64) int {
	return slices.IndexFunc(p.roots, func(r impl.Root) bool { return r.Tree == tree })
}

func (p *plainForest) refusal(op impl.TreeOp) int64 {
	if op.Kind < 1 || op.Kind > 6 {
		return impl.ErrForm
	}
	if op.Kind != impl.OpCommit && p.treePlace(op.Tree) < 0 {
		return impl.ErrNoTree
	}
	switch op.Kind {
	case impl.OpPut:
		if len(op.Key) > 12 || len(op.Val) > 10 {
			return impl.ErrLimit
		}
	case impl.OpDelete, impl.OpGet:
		if len(op.Key) > 12 {
			return impl.ErrLimit
		}
	}
	return impl.OK
}

func (p *plainForest) do(op impl.TreeOp) impl.TreeAns {
	if code := p.refusal(op); code != impl.OK {
		return impl.TreeAns{Code: code}
	}
	at := p.treePlace(op.Tree)
	switch op.Kind {
	case impl.OpClone:
		return p.clone(at)
	case impl.OpDrop:
		return p.drop(at)
	case impl.OpCommit:
		return p.commit()
	}
	val, there := p.value(at, op.Key)
	if op.Kind == impl.OpPut {
		code := p.whole(func() bool { return p.put(at, op.Key, op.Val) })
		if code == impl.OK && there {
			return impl.TreeAns{Value: 1}
		}
		return impl.TreeAns{Code: code}
	}
	if !there {
		return impl.TreeAns{Code: impl.ErrNotFound}
	}
	if op.Kind == impl.OpDelete {
		if code := p.whole(func() bool { return p.remove(at, op.Key) }); code != impl.OK {
			return impl.TreeAns{Code: code}
		}
	}
	return impl.TreeAns{Val: val}
}

func (p *plainForest) clone(at int) impl.TreeAns {
	if len(p.roots) == 16 || p.next == 65535 {
		return impl.TreeAns{Code: impl.ErrLimit}
	}
	p.roots = append(p.roots, impl.Root{Tree: p.next, Block: p.roots[at].Block})
	p.next++
	return impl.TreeAns{Value: p.next - 1}
}

func (p *plainForest) live() int64 {
	live := int64(0)
	for _, count := range p.counts() {
		if count > 0 {
			live++
		}
	}
	return live
}

func (p *plainForest) drop(at int) impl.TreeAns {
	if len(p.roots) == 1 {
		return impl.TreeAns{Code: impl.ErrLast}
	}
	before := p.live()
	p.roots = slices.Delete(p.roots, at, at+1)
	return impl.TreeAns{Value: before - p.live()}
}

func (p *plainForest) commit() impl.TreeAns {
	if p.generation == 1<<40 {
		return impl.TreeAns{Code: impl.ErrLimit}
	}
	cur := p.counts()
	plan, _, code := plainPlan(cur, p.com)
	if code != impl.OK {
		return impl.TreeAns{Code: code}
	}
	written := int64(len(plan))
	for b := range cur {
		if cur[b] > 0 && p.com[b] == 0 {
			written++
		}
	}
	p.com = cur
	for _, b := range plan {
		p.com[b] = 1
	}
	p.generation++
	return impl.TreeAns{Value: written}
}
