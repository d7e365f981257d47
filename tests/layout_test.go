package tests

import (
	"loop.example/s01595/impl"
)

// layout builds a block as the document draws it, and remembers which bytes it names.
type layout struct {
	bytes []byte
	named []bool
}

func (l *layout) put(bs ...byte) {
	for _, b := range bs {
		l.bytes = append(l.bytes, b)
		l.named = append(l.named, true)
	}
}

func (l *layout) zerosUpTo(length int) {
	for len(l.bytes) < length {
		l.bytes = append(l.bytes, 0)
		l.named = append(l.named, false)
	}
}

func (l *layout) two(v int64) {
	l.put(byte(v), byte(v>>8))
}

func (l *layout) text(s string, room int) {
	end := len(l.bytes) + 1 + room
	l.put(byte(len(s)))
	l.put([]byte(s)...)
	l.zerosUpTo(end)
}

func (l *layout) done() layout {
	l.zerosUpTo(124)
	l.zerosUpTo(128)
	l.bytes = reseal(l.bytes)
	return *l
}

// layNode takes nodes that are not valid too, as far as their fields have room.
func layNode(n impl.Node) layout {
	var l layout
	l.put(byte(n.Kind), byte(len(n.Entries)))
	for i, e := range n.Entries {
		l.zerosUpTo(4 + 24*i)
		l.text(e.Key, 12)
		if n.Kind == impl.KindLeaf {
			l.text(e.Val, 10)
		} else {
			l.two(e.Child)
		}
	}
	return l.done()
}

func layTable(t impl.Table) layout {
	var l layout
	l.put(impl.KindTable, byte(len(t.Runs)))
	l.two(t.Next)
	for _, r := range t.Runs {
		l.two(r.Start)
		l.two(r.Len)
		l.two(r.Count)
	}
	return l.done()
}

func laySuper(s impl.Super) layout {
	var l layout
	l.put(impl.KindSuper, byte(len(s.Roots)))
	l.two(s.Blocks)
	for i := range 8 {
		l.put(byte(s.Generation >> (8 * i)))
	}
	l.two(s.Next)
	l.two(s.Table)
	for _, r := range s.Roots {
		l.two(r.Tree)
		l.two(r.Block)
	}
	return l.done()
}
