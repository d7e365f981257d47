package tests

import (
	"bytes"
	"hash/crc32"
	"math/rand"
	"slices"
	"testing"

	"loop.example/s01595/impl"
)

func sameNode(a, b impl.Node) bool {
	return a.Kind == b.Kind && slices.Equal(a.Entries, b.Entries)
}

func sameTable(a, b impl.Table) bool {
	return a.Next == b.Next && slices.Equal(a.Runs, b.Runs)
}

func sameSuper(a, b impl.Super) bool {
	return a.Blocks == b.Blocks && a.Generation == b.Generation && a.Next == b.Next && a.Table == b.Table && slices.Equal(a.Roots, b.Roots)
}

// face is one pair of an encoder and a decoder, so that one test speaks of all three.
type face struct {
	name string
	// code is the decoder's alone; blank tells whether what it answered is the zero value.
	code func(block []byte) (code int64, blank bool)
	// again encodes what the decoder answers.
	again func(block []byte) ([]byte, int64)
}

func faces() []face {
	return []face{
		{"node", func(b []byte) (int64, bool) {
			n, c := impl.DecodeNode(b)
			return c, sameNode(n, impl.Node{})
		}, func(b []byte) ([]byte, int64) {
			n, _ := impl.DecodeNode(b)
			return impl.EncodeNode(n)
		}},
		{"table", func(b []byte) (int64, bool) {
			x, c := impl.DecodeTable(b)
			return c, sameTable(x, impl.Table{})
		}, func(b []byte) ([]byte, int64) {
			x, _ := impl.DecodeTable(b)
			return impl.EncodeTable(x)
		}},
		{"super", func(b []byte) (int64, bool) {
			s, c := impl.DecodeSuper(b)
			return c, sameSuper(s, impl.Super{})
		}, func(b []byte) ([]byte, int64) {
			s, _ := impl.DecodeSuper(b)
			return impl.EncodeSuper(s)
		}},
	}
}

func wantRefused(t *testing.T, what string, f face, block []byte, want int64) {
	t.Helper()
	code, blank := f.code(block)
	wantCode(t, f.name+": "+what, code, want)
	if !blank {
		t.Errorf("%s: %s: a refused block must answer the zero value", f.name, what)
	}
}

// facedLayout is a block with the place of the face that takes it.
type facedLayout struct {
	layout
	face int
}

// goodLayouts has blocks of all four forms.
func goodLayouts() map[string]facedLayout {
	out := map[string]facedLayout{}
	for name, n := range goodNodes() {
		out[name] = facedLayout{layNode(n), 0}
	}
	for name, x := range goodTables() {
		out[name] = facedLayout{layTable(x), 1}
	}
	for name, s := range goodSupers() {
		out[name] = facedLayout{laySuper(s), 2}
	}
	return out
}

func TestCrc32(t *testing.T) {
	if got := impl.Crc32([]byte("123456789")); got != 0xCBF43926 {
		t.Errorf("the nine digits: %X", got)
	}
	r := rand.New(rand.NewSource(2))
	for length := range 300 {
		data := make([]byte, length)
		r.Read(data)
		before := bytes.Clone(data)
		if got, want := impl.Crc32(data), crc32.ChecksumIEEE(data); got != want {
			t.Errorf("%d bytes: %X, want %X", length, got, want)
		}
		if !bytes.Equal(data, before) {
			t.Error("Crc32 writes into its argument")
		}
	}
	if impl.Crc32(nil) != 0 {
		t.Error("the sum of nothing must be 0")
	}
}

// Promise 2, here and in the next two: what is encoded comes back.
func TestGoodNodes(t *testing.T) {
	for name, n := range goodNodes() {
		before := slices.Clone(n.Entries)
		block, code := impl.EncodeNode(n)
		wantCode(t, name, code, impl.OK)
		if !bytes.Equal(block, layNode(n).bytes) {
			t.Fatalf("%s: the block is\n%v, want\n%v", name, block, layNode(n).bytes)
		}
		got, code := impl.DecodeNode(block)
		wantCode(t, name+", decoded", code, impl.OK)
		if !sameNode(got, n) || !slices.Equal(n.Entries, before) {
			t.Errorf("%s: decoded %v, want %v", name, got, n)
		}
	}
}

func TestGoodTables(t *testing.T) {
	for name, x := range goodTables() {
		before := slices.Clone(x.Runs)
		block, code := impl.EncodeTable(x)
		wantCode(t, name, code, impl.OK)
		if !bytes.Equal(block, layTable(x).bytes) {
			t.Fatalf("%s: the block is\n%v, want\n%v", name, block, layTable(x).bytes)
		}
		got, code := impl.DecodeTable(block)
		wantCode(t, name+", decoded", code, impl.OK)
		if !sameTable(got, x) || !slices.Equal(x.Runs, before) {
			t.Errorf("%s: decoded %v, want %v", name, got, x)
		}
	}
}

func TestGoodSupers(t *testing.T) {
	for name, s := range goodSupers() {
		before := slices.Clone(s.Roots)
		block, code := impl.EncodeSuper(s)
		wantCode(t, name, code, impl.OK)
		if !bytes.Equal(block, laySuper(s).bytes) {
			t.Fatalf("%s: the block is\n%v, want\n%v", name, block, laySuper(s).bytes)
		}
		got, code := impl.DecodeSuper(block)
		wantCode(t, name+", decoded", code, impl.OK)
		if !sameSuper(got, s) || !slices.Equal(s.Roots, before) {
			t.Errorf("%s: decoded %v, want %v", name, got, s)
		}
	}
}

func TestBadValuesAreNotEncoded(t *testing.T) {
	refused := func(name string, block []byte, code int64) {
		t.Helper()
		wantCode(t, name, code, impl.ErrForm)
		if len(block) != 0 {
			t.Errorf("%s: a refused value must answer no bytes", name)
		}
	}
	for name, n := range badNodes() {
		block, code := impl.EncodeNode(n)
		refused("node: "+name, block, code)
	}
	for name, x := range badTables() {
		block, code := impl.EncodeTable(x)
		refused("table: "+name, block, code)
	}
	for name, s := range badSupers() {
		block, code := impl.EncodeSuper(s)
		refused("super: "+name, block, code)
	}
}

func TestBadValuesAreNotDecoded(t *testing.T) {
	fs := faces()
	for name, n := range narrowBadNodes() {
		wantRefused(t, name, fs[0], layNode(n).bytes, impl.ErrForm)
	}
	for name, x := range narrowBadTables() {
		wantRefused(t, name, fs[1], layTable(x).bytes, impl.ErrForm)
	}
	for name, s := range narrowBadSupers() {
		wantRefused(t, name, fs[2], laySuper(s).bytes, impl.ErrForm)
	}
}

// TestLengthsBeyondTheirFields lays lengths and numbers down that no value could have led to.
func TestLengthsBeyondTheirFields(t *testing.T) {
	full, pair := goodNodes()["full leaf"], goodNodes()["full inner"]
	for _, row := range []struct {
		name  string
		block []byte
		at    int
		value byte
		face  int
	}{
		{"key of 13", layNode(full).bytes, 4, 13, 0},
		{"key of 255", layNode(full).bytes, 4 + 24*4, 255, 0},
		{"inner key of 13", layNode(pair).bytes, 4 + 24*4, 13, 0},
		{"inner key of 255", layNode(pair).bytes, 4, 255, 0},
		{"value of 11", layNode(full).bytes, 17, 11, 0},
		{"value of 255", layNode(full).bytes, 17 + 24*4, 255, 0},
		{"6 entries", layNode(full).bytes, 1, 6, 0},
		{"255 entries", layNode(full).bytes, 1, 255, 0},
		{"6 inner entries", layNode(pair).bytes, 1, 6, 0},
		{"21 runs", layTable(goodTables()["full table"]).bytes, 1, 21, 1},
		{"255 runs", layTable(goodTables()["full table"]).bytes, 1, 255, 1},
		{"17 roots", laySuper(goodSupers()["greatest"]).bytes, 1, 17, 2},
		{"255 roots", laySuper(goodSupers()["greatest"]).bytes, 1, 255, 2},
	} {
		row.block[row.at] = row.value
		wantRefused(t, row.name, faces()[row.face], reseal(row.block), impl.ErrForm)
	}
}

func TestEachFaceTakesItsFormsAlone(t *testing.T) {
	for name, l := range goodLayouts() {
		for i, f := range faces() {
			if i == l.face {
				code, _ := f.code(l.bytes)
				wantCode(t, name, code, impl.OK)
			} else {
				wantRefused(t, name, f, l.bytes, impl.ErrForm)
			}
		}
	}
}

func TestBytesThatMustBeZero(t *testing.T) {
	for name, l := range goodLayouts() {
		for at := range 124 {
			if l.named[at] {
				continue
			}
			for _, value := range []byte{1, 0x80, 0xFF} {
				block := bytes.Clone(l.bytes)
				block[at] = value
				wantRefused(t, name, faces()[l.face], reseal(block), impl.ErrForm)
			}
		}
	}
}

// wantSameAgain is the second half of promise 2, of any block whose sum is right.
func wantSameAgain(t *testing.T, block []byte) {
	t.Helper()
	taken := 0
	for _, f := range faces() {
		code, _ := f.code(block)
		if code == impl.ErrForm {
			continue
		}
		wantCode(t, f.name, code, impl.OK)
		taken++
		again, code := f.again(block)
		wantCode(t, f.name+" encoded again", code, impl.OK)
		if !bytes.Equal(again, block) {
			t.Fatalf("%s: decoded and encoded again:\n%v, want\n%v", f.name, again, block)
		}
	}
	if taken > 1 {
		t.Fatalf("%d decoders take one block", taken)
	}
}

func TestEveryByteDecodesOrIsRefused(t *testing.T) {
	for _, l := range []layout{
		layNode(goodNodes()["prefixes"]), layNode(goodNodes()["full inner"]),
		layTable(goodTables()["touching at the end"]), laySuper(goodSuper()),
	} {
		for at := range 124 {
			for value := range 256 {
				block := bytes.Clone(l.bytes)
				block[at] = byte(value)
				wantSameAgain(t, reseal(block))
			}
		}
	}
}

func TestRandomBlocksDecodeOrAreRefused(t *testing.T) {
	r := rand.New(rand.NewSource(3))
	for i := range 40000 {
		block := make([]byte, 128)
		if i%2 == 0 {
			r.Read(block)
		} else {
			for j := range block {
				block[j] = byte(r.Intn(4))
			}
		}
		block[0] = byte(r.Intn(6))
		block[1] = byte(r.Intn(8))
		wantSameAgain(t, reseal(block))
	}
}

func randomText(r *rand.Rand, most int) string {
	text := make([]byte, r.Intn(most+1))
	for i := range text {
		text[i] = byte(r.Intn(3)) * 127
	}
	return string(text)
}

func randomNode(r *rand.Rand) impl.Node {
	n := impl.Node{Kind: int64(1 + r.Intn(2))}
	most := r.Intn(6)
	if n.Kind == impl.KindInner {
		most = 2 + r.Intn(4)
	}
	for len(n.Entries) < most {
		e := impl.Entry{Key: randomText(r, 12)}
		if slices.ContainsFunc(n.Entries, func(o impl.Entry) bool { return o.Key == e.Key }) {
			continue
		}
		if n.Kind == impl.KindLeaf {
			e.Val = randomText(r, 10)
		} else {
			e.Child = 2 + r.Int63n(510)
		}
		n.Entries = append(n.Entries, e)
	}
	slices.SortFunc(n.Entries, func(a, b impl.Entry) int { return bytes.Compare([]byte(a.Key), []byte(b.Key)) })
	return n
}

func TestRandomNodesComeBack(t *testing.T) {
	r := rand.New(rand.NewSource(4))
	for range 5000 {
		n := randomNode(r)
		block, code := impl.EncodeNode(n)
		wantCode(t, "random node", code, impl.OK)
		if !bytes.Equal(block, layNode(n).bytes) {
			t.Fatalf("the block of %v is %v", n, block)
		}
		got, code := impl.DecodeNode(block)
		wantCode(t, "random node, decoded", code, impl.OK)
		if !sameNode(got, n) {
			t.Fatalf("%v comes back as %v", n, got)
		}
	}
}

// Promise 3.
func TestEveryBitIsSummed(t *testing.T) {
	for name, l := range goodLayouts() {
		for bit := range 1024 {
			block := bytes.Clone(l.bytes)
			block[bit/8] ^= 1 << (bit % 8)
			wantRefused(t, name, faces()[l.face], block, impl.ErrSum)
		}
	}
}

func TestOrderOfDecoderErrors(t *testing.T) {
	good := laySuper(goodSuper()).bytes
	for _, f := range faces() {
		for _, block := range [][]byte{nil, {}, good[:1], good[:124], good[:127], append(bytes.Clone(good), 0), make([]byte, 256)} {
			wantRefused(t, "a wrong size", f, block, impl.ErrSize)
		}
		wantRefused(t, "zeros", f, make([]byte, 128), impl.ErrSum)
		wantRefused(t, "ones", f, blockOf(0xFF), impl.ErrSum)
		wantRefused(t, "zeros with their sum", f, reseal(make([]byte, 128)), impl.ErrForm)
		wantRefused(t, "ones with their sum", f, reseal(blockOf(0xFF)), impl.ErrForm)
	}
}

func TestDecodersLeaveTheBlock(t *testing.T) {
	for name, l := range goodLayouts() {
		block := bytes.Clone(l.bytes)
		for _, f := range faces() {
			f.code(block)
			wrong := append([]byte{}, block[:127]...)
			wrong = append(wrong, ^block[127])
			f.code(wrong)
			if !bytes.Equal(block, l.bytes) || wrong[127] != ^block[127] {
				t.Errorf("%s: the decoder of a %s writes into its argument", name, f.name)
			}
		}
	}
}

func TestDecodedValuesAreNew(t *testing.T) {
	for name, want := range goodNodes() {
		block := layNode(want).bytes
		n, _ := impl.DecodeNode(block)
		turnBytes(block)
		if !sameNode(n, want) {
			t.Errorf("%s: the node shares memory with its block", name)
		}
		turnBytes(block)
		for i := range n.Entries[:cap(n.Entries)] {
			n.Entries[:cap(n.Entries)][i] = impl.Entry{Key: "x", Child: 9}
		}
		if again, _ := impl.DecodeNode(block); !sameNode(again, want) {
			t.Errorf("%s: a change of an answer changes a later one", name)
		}
	}
	for name, want := range goodTables() {
		block := layTable(want).bytes
		x, _ := impl.DecodeTable(block)
		turnBytes(block)
		if !sameTable(x, want) {
			t.Errorf("%s: the table shares memory with its block", name)
		}
	}
	for name, want := range goodSupers() {
		block := laySuper(want).bytes
		s, _ := impl.DecodeSuper(block)
		turnBytes(block)
		if !sameSuper(s, want) {
			t.Errorf("%s: the superblock shares memory with its block", name)
		}
	}
}

func TestEncodedBlocksAreNew(t *testing.T) {
	encoders := map[string]func() []byte{}
	n, x, s := goodNodes()["full leaf"], goodTables()["full table"], goodSupers()["greatest"]
	entries, rs, roots := slices.Clone(n.Entries), slices.Clone(x.Runs), slices.Clone(s.Roots)
	encoders["node"] = func() []byte { b, _ := impl.EncodeNode(n); return b }
	encoders["table"] = func() []byte { b, _ := impl.EncodeTable(x); return b }
	encoders["super"] = func() []byte { b, _ := impl.EncodeSuper(s); return b }
	for name, encode := range encoders {
		first := encode()
		want := bytes.Clone(first)
		turnBytes(first)
		if !bytes.Equal(encode(), want) {
			t.Errorf("%s: a change of an answer changes a later one", name)
		}
	}
	if !slices.Equal(n.Entries, entries) || !slices.Equal(x.Runs, rs) || !slices.Equal(s.Roots, roots) {
		t.Error("an encoder writes into its argument, or its answer shares memory with it")
	}
}

func TestRefusedValuesAreAsBefore(t *testing.T) {
	n := leaf(item("b", "1"), item("a", "2"))
	impl.EncodeNode(n)
	x := runs(impl.Run{Start: 9, Len: 1, Count: 1}, impl.Run{Start: 2, Len: 1, Count: 1})
	impl.EncodeTable(x)
	s := superWith(func(s *impl.Super) { s.Roots[0].Tree, s.Roots[1].Tree = 2, 1 })
	impl.EncodeSuper(s)
	if n.Entries[0].Key != "b" || x.Runs[0].Start != 9 || s.Roots[0].Tree != 2 {
		t.Error("a refused value is not as before")
	}
}
