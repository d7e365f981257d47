package tests

import (
	"bytes"
	"hash/crc32"
	"testing"

	"loop.example/s01595/impl"
)

func wantCode(t *testing.T, what string, got, want int64) {
	t.Helper()
	if got != want {
		t.Errorf("%s: code %d, want %d", what, got, want)
	}
}

func blockOf(b byte) []byte {
	return bytes.Repeat([]byte{b}, impl.BlockSize)
}

func copyDevice(d impl.Device) impl.Device {
	out := impl.Device{Blocks: d.Blocks, Disk: bytes.Clone(d.Disk)}
	for _, w := range d.Cache {
		out.Cache = append(out.Cache, impl.Pending{Block: w.Block, Data: bytes.Clone(w.Data)})
	}
	return out
}

// sameDevice takes nil and an empty list for the same.
func sameDevice(a, b impl.Device) bool {
	if a.Blocks != b.Blocks || !bytes.Equal(a.Disk, b.Disk) || len(a.Cache) != len(b.Cache) {
		return false
	}
	for i, w := range a.Cache {
		if w.Block != b.Cache[i].Block || !bytes.Equal(w.Data, b.Cache[i].Data) {
			return false
		}
	}
	return true
}

// turnBytes changes a list up to its capacity: what an append could reach counts as shared too.
func turnBytes(list []byte) {
	list = list[:cap(list)]
	for i := range list {
		list[i] ^= 0xFF
	}
}

func turnDevice(d impl.Device) {
	turnBytes(d.Disk)
	cache := d.Cache[:cap(d.Cache)]
	for i := range cache {
		turnBytes(cache[i].Data)
		cache[i].Block = ^cache[i].Block
	}
}

// wantApart turns each list of one answer in its turn and looks whether another one feels it.
func wantApart(t *testing.T, what string, d impl.Device) {
	t.Helper()
	lists := [][]byte{d.Disk}
	for _, w := range d.Cache {
		lists = append(lists, w.Data)
	}
	for i, list := range lists {
		before := copyDevice(d)
		turnBytes(list)
		if i == 0 {
			turnBytes(before.Disk)
		} else {
			turnBytes(before.Cache[i-1].Data)
		}
		if !sameDevice(d, before) {
			t.Errorf("%s: list %d of the answer shares memory with another one", what, i)
		}
		turnBytes(list)
	}
}

// reseal puts the right sum into a copy of a block; the sum comes from the library, not from the program.
func reseal(block []byte) []byte {
	out := bytes.Clone(block)
	sum := crc32.ChecksumIEEE(out[:124])
	out[124], out[125], out[126], out[127] = byte(sum), byte(sum>>8), byte(sum>>16), byte(sum>>24)
	return out
}
