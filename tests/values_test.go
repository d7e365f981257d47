package tests

import (
	"math"
	"slices"

	"loop.example/s01595/impl"
)

const (
	longKey = "0123456789ab"
	longVal = "0123456789"
)

func leaf(entries ...impl.Entry) impl.Node {
	return impl.Node{Kind: impl.KindLeaf, Entries: entries}
}

func inner(entries ...impl.Entry) impl.Node {
	return impl.Node{Kind: impl.KindInner, Entries: entries}
}

func item(key, val string) impl.Entry {
	return impl.Entry{Key: key, Val: val}
}

func child(key string, block int64) impl.Entry {
	return impl.Entry{Key: key, Child: block}
}

func runs(rs ...impl.Run) impl.Table {
	return impl.Table{Runs: rs}
}

func goodNodes() map[string]impl.Node {
	return map[string]impl.Node{
		"empty leaf":             leaf(),
		"leaf of one empty item": leaf(item("", "")),
		"leaf of one":            leaf(item("a", "xy")),
		"longest key and value":  leaf(item("", longVal), item(longKey, "")),
		"full leaf":              leaf(item(longKey[:11]+"A", longVal), item(longKey[:11]+"B", longVal), item(longKey[:11]+"C", longVal), item(longKey[:11]+"D", longVal), item(longKey[:11]+"E", longVal)),
		"keys of zeros":          leaf(item("", "\x00"), item("\x00", "\x00\x00"), item("\x00\x00", ""), item("\x00\x01", "\xFF")),
		"keys of high bytes":     leaf(item("\x7F", "é"), item("\x80", "\xC3\x28"), item("\xFF\xFF", longVal)),
		"prefixes":               leaf(item("a", "1"), item("aa", "2"), item("aaa", "3"), item("b", "4")),
		"inner of two":           inner(child("", 2), child("a", 511)),
		"inner with one child":   inner(child("a", 300), child("b", 300)),
		"full inner":             inner(child("", 2), child("\x00", 255), child(longKey[:1], 256), child(longKey, 257), child("z", 511)),
		"inner with long keys":   inner(child(longKey[:11]+"A", 3), child(longKey[:11]+"B", 4), child(longKey[:11]+"C", 5)),
	}
}

// narrowBadNodes have fields that fit their bytes, so that decoders meet them too.
func narrowBadNodes() map[string]impl.Node {
	return map[string]impl.Node{
		"no kind":            {},
		"kind table":         {Kind: impl.KindTable},
		"kind 5":             {Kind: 5, Entries: []impl.Entry{item("a", "")}},
		"kind 255":           {Kind: 255},
		"inner of none":      inner(),
		"inner of one":       inner(child("a", 2)),
		"child 0":            inner(child("a", 0), child("b", 2)),
		"child 1":            inner(child("a", 2), child("b", 1)),
		"child 512":          inner(child("a", 2), child("b", 512)),
		"child 65535":        inner(child("a", 65535), child("b", 2)),
		"equal keys":         leaf(item("a", "1"), item("a", "2")),
		"equal empty keys":   leaf(item("", "1"), item("", "2")),
		"falling keys":       leaf(item("b", ""), item("a", "")),
		"falling at the end": leaf(item("a", ""), item("b", ""), item("c", ""), item("d", ""), item("c", "")),
		"longer key ahead":   leaf(item("aa", ""), item("a", "")),
		"signed order":       leaf(item("\x80", ""), item("\x7F", "")),
		"equal inner keys":   inner(child("a", 2), child("a", 3)),
		"falling inner keys": inner(child("a", 2), child("c", 3), child("b", 4)),
	}
}

func badNodes() map[string]impl.Node {
	six := func(e impl.Entry) []impl.Entry {
		var out []impl.Entry
		for _, k := range []string{"a", "b", "c", "d", "e", "f"} {
			e.Key = k
			out = append(out, e)
		}
		return out
	}
	out := narrowBadNodes()
	for name, n := range map[string]impl.Node{
		"kind 257":                 {Kind: 257},
		"kind -1":                  {Kind: -1},
		"least kind":               {Kind: math.MinInt64},
		"greatest kind":            {Kind: math.MaxInt64},
		"kind that wraps":          {Kind: 1<<32 + 1},
		"leaf of six":              leaf(six(impl.Entry{})...),
		"inner of six":             inner(six(impl.Entry{Child: 2})...),
		"leaf of 256":              leaf(slices.Repeat(six(impl.Entry{}), 43)[:256]...),
		"long key":                 leaf(item(longKey+"c", "")),
		"long inner key":           inner(child("", 2), child(longKey+"c", 3)),
		"long value":               leaf(item("a", longVal+"a")),
		"key of 256 bytes":         leaf(item(string(make([]byte, 256)), "")),
		"value of 256 bytes":       leaf(item("", string(make([]byte, 256)))),
		"last value too long":      leaf(item("a", ""), item("b", longVal+"a")),
		"leaf with a child":        leaf(impl.Entry{Key: "a", Child: 2}),
		"leaf with child -1":       leaf(item("", ""), impl.Entry{Key: "a", Child: -1}),
		"leaf with greatest child": leaf(impl.Entry{Child: math.MaxInt64}),
		"inner with a value":       inner(impl.Entry{Key: "a", Val: "x", Child: 2}, child("b", 3)),
		"inner with a zero value":  inner(child("a", 2), impl.Entry{Key: "b", Val: "\x00", Child: 3}),
		"child -1":                 inner(child("a", -1), child("b", 2)),
		"least child":              inner(child("a", math.MinInt64), child("b", 2)),
		"greatest child":           inner(child("a", 2), child("b", math.MaxInt64)),
		"child that wraps":         inner(child("a", 2), child("b", 65536+2)),
	} {
		out[name] = n
	}
	return out
}

func goodTables() map[string]impl.Table {
	full := impl.Table{Next: 511}
	for i := range int64(impl.RunsPerBlock) {
		full.Runs = append(full.Runs, impl.Run{Start: 2 + i, Len: 1, Count: 1 + i%2})
	}
	return map[string]impl.Table{
		"empty table":         {},
		"empty, least next":   {Next: 2},
		"empty, most next":    {Next: 511},
		"one run":             runs(impl.Run{Start: 2, Len: 1, Count: 1}),
		"the whole device":    runs(impl.Run{Start: 2, Len: 510, Count: 65535}),
		"the last block":      runs(impl.Run{Start: 511, Len: 1, Count: 1}),
		"touching":            runs(impl.Run{Start: 2, Len: 3, Count: 1}, impl.Run{Start: 5, Len: 1, Count: 2}),
		"touching at the end": runs(impl.Run{Start: 2, Len: 254, Count: 1}, impl.Run{Start: 256, Len: 255, Count: 65535}, impl.Run{Start: 511, Len: 1, Count: 65534}),
		"apart, one count":    runs(impl.Run{Start: 2, Len: 3, Count: 7}, impl.Run{Start: 6, Len: 1, Count: 7}),
		"apart, two counts":   runs(impl.Run{Start: 3, Len: 3, Count: 256}, impl.Run{Start: 300, Len: 100, Count: 255}),
		"full table":          full,
	}
}

func narrowBadTables() map[string]impl.Table {
	first := impl.Run{Start: 10, Len: 5, Count: 3}
	return map[string]impl.Table{
		"next 1":               {Next: 1},
		"next 512":             {Next: 512},
		"next 65535":           {Next: 65535},
		"start 0":              runs(impl.Run{Start: 0, Len: 1, Count: 1}),
		"start 1":              runs(impl.Run{Start: 1, Len: 1, Count: 1}),
		"start 512":            runs(impl.Run{Start: 512, Len: 1, Count: 1}),
		"start 65535":          runs(impl.Run{Start: 65535, Len: 1, Count: 1}),
		"start 65535, wraps":   runs(impl.Run{Start: 65535, Len: 65535, Count: 1}),
		"len 0":                runs(impl.Run{Start: 2, Len: 0, Count: 1}),
		"len 0 at the end":     runs(impl.Run{Start: 512, Len: 0, Count: 1}),
		"len 511":              runs(impl.Run{Start: 2, Len: 511, Count: 1}),
		"len 65535":            runs(impl.Run{Start: 2, Len: 65535, Count: 1}),
		"one beyond the end":   runs(impl.Run{Start: 511, Len: 2, Count: 1}),
		"count 0":              runs(impl.Run{Start: 2, Len: 1, Count: 0}),
		"touching, one count":  runs(first, impl.Run{Start: 15, Len: 1, Count: 3}),
		"overlapping by one":   runs(first, impl.Run{Start: 14, Len: 1, Count: 4}),
		"the same run":         runs(first, first),
		"falling":              runs(first, impl.Run{Start: 4, Len: 1, Count: 1}),
		"second run too long":  runs(first, impl.Run{Start: 20, Len: 493, Count: 1}),
		"second run of none":   runs(first, impl.Run{Start: 20, Len: 0, Count: 1}),
		"third run is falling": runs(first, impl.Run{Start: 20, Len: 1, Count: 1}, impl.Run{Start: 16, Len: 1, Count: 1}),
	}
}

func badTables() map[string]impl.Table {
	over := impl.Table{}
	for i := range int64(impl.RunsPerBlock + 1) {
		over.Runs = append(over.Runs, impl.Run{Start: 2 + 2*i, Len: 1, Count: 1})
	}
	wide := impl.Table{}
	for i := range int64(256) {
		wide.Runs = append(wide.Runs, impl.Run{Start: 2 + i, Len: 1, Count: 1 + i%2})
	}
	first := impl.Run{Start: 10, Len: 5, Count: 3}
	out := narrowBadTables()
	for name, t := range map[string]impl.Table{
		"next -1":               {Next: -1},
		"least next":            {Next: math.MinInt64},
		"greatest next":         {Next: math.MaxInt64},
		"next that wraps":       {Next: 65536},
		"21 runs":               over,
		"256 runs":              wide,
		"start -1":              runs(impl.Run{Start: -1, Len: 4, Count: 1}),
		"least start":           runs(impl.Run{Start: math.MinInt64, Len: 1, Count: 1}),
		"greatest start":        runs(impl.Run{Start: math.MaxInt64, Len: 1, Count: 1}),
		"sum wraps by start":    runs(impl.Run{Start: math.MaxInt64 - 1, Len: 500, Count: 1}),
		"sum wraps by len":      runs(impl.Run{Start: 2, Len: math.MaxInt64, Count: 1}),
		"sum wraps by both":     runs(impl.Run{Start: math.MaxInt64, Len: math.MaxInt64, Count: 1}),
		"sum wraps below":       runs(impl.Run{Start: math.MinInt64, Len: math.MinInt64, Count: 1}),
		"len -1":                runs(impl.Run{Start: 2, Len: -1, Count: 1}),
		"least len":             runs(impl.Run{Start: 2, Len: math.MinInt64, Count: 1}),
		"count -1":              runs(impl.Run{Start: 2, Len: 1, Count: -1}),
		"count 65536":           runs(impl.Run{Start: 2, Len: 1, Count: 65536}),
		"count 65537":           runs(impl.Run{Start: 2, Len: 1, Count: 65537}),
		"greatest count":        runs(impl.Run{Start: 2, Len: 1, Count: math.MaxInt64}),
		"least count":           runs(impl.Run{Start: 2, Len: 1, Count: math.MinInt64}),
		"second sum wraps":      runs(first, impl.Run{Start: 20, Len: math.MaxInt64, Count: 1}),
		"second start is least": runs(first, impl.Run{Start: math.MinInt64, Len: 1, Count: 1}),
	} {
		out[name] = t
	}
	return out
}

func goodSuper() impl.Super {
	return impl.Super{Blocks: 64, Generation: 258, Next: 3, Table: 9, Roots: []impl.Root{{Tree: 0, Block: 2}, {Tree: 2, Block: 5}}}
}

func superWith(change func(s *impl.Super)) impl.Super {
	s := goodSuper()
	change(&s)
	return s
}

func goodSupers() map[string]impl.Super {
	full := impl.Super{Blocks: 512, Generation: 1 << 40, Next: 65535, Table: 511}
	for i := range int64(impl.MaxTrees) {
		full.Roots = append(full.Roots, impl.Root{Tree: 65534 - 300*(15-i), Block: 511 - i%3})
	}
	return map[string]impl.Super{
		"ordinary":         goodSuper(),
		"least":            {Blocks: 8, Generation: 1, Next: 1, Table: 2, Roots: []impl.Root{{Tree: 0, Block: 2}}},
		"greatest":         full,
		"last block":       {Blocks: 8, Generation: 1<<40 - 1, Next: 2, Table: 7, Roots: []impl.Root{{Tree: 1, Block: 7}}},
		"two of one block": {Blocks: 300, Generation: 0x0102030405, Next: 700, Table: 256, Roots: []impl.Root{{Tree: 255, Block: 299}, {Tree: 256, Block: 299}, {Tree: 699, Block: 299}}},
		"root is table":    superWith(func(s *impl.Super) { s.Roots[0].Block = 9 }),
	}
}

func narrowBadSupers() map[string]impl.Super {
	return map[string]impl.Super{
		"no super":          {},
		"blocks 0":          superWith(func(s *impl.Super) { s.Blocks = 0 }),
		"blocks 7":          {Blocks: 7, Generation: 1, Next: 1, Table: 2, Roots: []impl.Root{{Tree: 0, Block: 2}}},
		"blocks 513":        superWith(func(s *impl.Super) { s.Blocks = 513 }),
		"blocks 65535":      superWith(func(s *impl.Super) { s.Blocks = 65535 }),
		"generation 0":      superWith(func(s *impl.Super) { s.Generation = 0 }),
		"generation -1":     superWith(func(s *impl.Super) { s.Generation = -1 }),
		"generation beyond": superWith(func(s *impl.Super) { s.Generation = 1<<40 + 1 }),
		"least generation":  superWith(func(s *impl.Super) { s.Generation = math.MinInt64 }),
		"most generation":   superWith(func(s *impl.Super) { s.Generation = math.MaxInt64 }),
		"next 0":            superWith(func(s *impl.Super) { s.Next, s.Roots = 0, []impl.Root{{Tree: 0, Block: 2}} }),
		"table 0":           superWith(func(s *impl.Super) { s.Table = 0 }),
		"table 1":           superWith(func(s *impl.Super) { s.Table = 1 }),
		"table 64":          superWith(func(s *impl.Super) { s.Table = 64 }),
		"table 65535":       superWith(func(s *impl.Super) { s.Table = 65535 }),
		"no roots":          superWith(func(s *impl.Super) { s.Roots = nil }),
		"17 roots":          superWith(func(s *impl.Super) { s.Roots, s.Next = manyRoots(17), 20 }),
		"tree is next":      superWith(func(s *impl.Super) { s.Next = 2 }),
		"tree beyond next":  superWith(func(s *impl.Super) { s.Roots[1].Tree = 65535 }),
		"first tree beyond": superWith(func(s *impl.Super) { s.Roots[0].Tree = 3 }),
		"block 0":           superWith(func(s *impl.Super) { s.Roots[0].Block = 0 }),
		"block 1":           superWith(func(s *impl.Super) { s.Roots[1].Block = 1 }),
		"block 64":          superWith(func(s *impl.Super) { s.Roots[1].Block = 64 }),
		"block 65535":       superWith(func(s *impl.Super) { s.Roots[1].Block = 65535 }),
		"equal trees":       superWith(func(s *impl.Super) { s.Roots[0].Tree = 2 }),
		"falling trees":     superWith(func(s *impl.Super) { s.Roots[0].Tree, s.Roots[1].Tree = 2, 1 }),
	}
}

func manyRoots(number int64) []impl.Root {
	var out []impl.Root
	for i := range number {
		out = append(out, impl.Root{Tree: i, Block: 2})
	}
	return out
}

func badSupers() map[string]impl.Super {
	out := narrowBadSupers()
	for name, s := range map[string]impl.Super{
		"272 roots":      superWith(func(s *impl.Super) { s.Roots, s.Next = manyRoots(272), 300 }),
		"blocks -1":      superWith(func(s *impl.Super) { s.Blocks = -1 }),
		"blocks wrap":    superWith(func(s *impl.Super) { s.Blocks = 65536 + 64 }),
		"least blocks":   superWith(func(s *impl.Super) { s.Blocks = math.MinInt64 }),
		"most blocks":    superWith(func(s *impl.Super) { s.Blocks = math.MaxInt64 }),
		"next -1":        superWith(func(s *impl.Super) { s.Next = -1 }),
		"next 65536":     superWith(func(s *impl.Super) { s.Next = 65536 }),
		"next wraps":     superWith(func(s *impl.Super) { s.Next = 65536 + 3 }),
		"least next":     superWith(func(s *impl.Super) { s.Next = math.MinInt64 }),
		"most next":      superWith(func(s *impl.Super) { s.Next = math.MaxInt64 }),
		"table -1":       superWith(func(s *impl.Super) { s.Table = -1 }),
		"table wraps":    superWith(func(s *impl.Super) { s.Table = 65536 + 9 }),
		"least table":    superWith(func(s *impl.Super) { s.Table = math.MinInt64 }),
		"most table":     superWith(func(s *impl.Super) { s.Table = math.MaxInt64 }),
		"tree -1":        superWith(func(s *impl.Super) { s.Roots[0].Tree = -1 }),
		"tree wraps":     superWith(func(s *impl.Super) { s.Roots[1].Tree = 65536 + 2 }),
		"least tree":     superWith(func(s *impl.Super) { s.Roots[0].Tree = math.MinInt64 }),
		"most tree":      superWith(func(s *impl.Super) { s.Roots[1].Tree = math.MaxInt64 }),
		"block -1":       superWith(func(s *impl.Super) { s.Roots[0].Block = -1 }),
		"block wraps":    superWith(func(s *impl.Super) { s.Roots[1].Block = 65536 + 5 }),
		"least block":    superWith(func(s *impl.Super) { s.Roots[0].Block = math.MinInt64 }),
		"greatest block": superWith(func(s *impl.Super) { s.Roots[1].Block = math.MaxInt64 }),
	} {
		out[name] = s
	}
	return out
}
