package tests

import (
	"bytes"
	"math"
	"math/rand"
	"testing"

	"loop.example/s01595/impl"
)

// plainDevice is what a device means, without its cache being copied about.
type plainDevice struct {
	disk  [][]byte
	cache []impl.Pending
}

func plainOf(d impl.Device) *plainDevice {
	p := &plainDevice{}
	for b := int64(0); b < d.Blocks; b++ {
		p.disk = append(p.disk, bytes.Clone(d.Disk[b*128:(b+1)*128]))
	}
	p.cache = copyDevice(d).Cache
	return p
}

func (p *plainDevice) read(block int64) []byte {
	for i := len(p.cache) - 1; i >= 0; i-- {
		if p.cache[i].Block == block {
			return p.cache[i].Data
		}
	}
	return p.disk[block]
}

func (p *plainDevice) write(block int64, data []byte) {
	p.cache = append(p.cache, impl.Pending{Block: block, Data: bytes.Clone(data)})
}

func (p *plainDevice) settle(survives func(i int) bool) {
	for i, w := range p.cache {
		if survives(i) {
			p.disk[w.Block] = w.Data
		}
	}
	p.cache = nil
}

func wantReads(t *testing.T, what string, d impl.Device, p *plainDevice) {
	t.Helper()
	if len(d.Cache) != len(p.cache) {
		t.Fatalf("%s: %d writes in the cache, want %d", what, len(d.Cache), len(p.cache))
	}
	for b := range p.disk {
		got, code := impl.DevRead(d, int64(b))
		if code != impl.OK || !bytes.Equal(got, p.read(int64(b))) {
			t.Fatalf("%s: block %d reads wrong (code %d)", what, b, code)
		}
		if !bytes.Equal(d.Disk[b*128:(b+1)*128], p.disk[b]) {
			t.Fatalf("%s: block %d lies wrong on the disk", what, b)
		}
	}
}

func newDevice(t *testing.T, blocks int64, fill []byte) impl.Device {
	t.Helper()
	d, code := impl.NewDevice(blocks, fill)
	if code != impl.OK {
		t.Fatalf("NewDevice(%d): code %d", blocks, code)
	}
	return d
}

func mustWrite(t *testing.T, d impl.Device, block int64, data []byte) impl.Device {
	t.Helper()
	d, code := impl.DevWrite(d, block, data)
	if code != impl.OK {
		t.Fatalf("DevWrite of block %d: code %d", block, code)
	}
	return d
}

// fullDevice has a cache of MaxPending writes.
func fullDevice() impl.Device {
	d := impl.Device{Blocks: 8, Disk: make([]byte, 1024)}
	for i := range impl.MaxPending {
		d.Cache = append(d.Cache, impl.Pending{Block: int64(i % 8), Data: blockOf(byte(i))})
	}
	return d
}

func TestNewDevice(t *testing.T) {
	long := make([]byte, 3000)
	for i := range long {
		long[i] = byte(i * 7)
	}
	for _, blocks := range []int64{8, 9, 100, 511, 512} {
		for _, fill := range [][]byte{nil, {}, {5}, {1, 2, 3}, long} {
			d, code := impl.NewDevice(blocks, fill)
			if code != impl.OK || d.Blocks != blocks || int64(len(d.Disk)) != blocks*128 || len(d.Cache) != 0 {
				t.Fatalf("%d blocks: code %d, %d blocks, %d bytes, %d writes", blocks, code, d.Blocks, len(d.Disk), len(d.Cache))
			}
			for i, b := range d.Disk {
				want := byte(0)
				if len(fill) > 0 {
					want = fill[i%len(fill)]
				}
				if b != want {
					t.Fatalf("%d blocks, fill of %d bytes: byte %d is %d, want %d", blocks, len(fill), i, b, want)
				}
			}
		}
	}
	for _, blocks := range []int64{math.MinInt64, -8, -1, 0, 1, 7, 513, 1 << 57, math.MaxInt64} {
		d, code := impl.NewDevice(blocks, []byte{1})
		wantCode(t, "NewDevice out of bounds", code, impl.ErrDevice)
		if !sameDevice(d, impl.Device{}) {
			t.Errorf("NewDevice(%d) must answer an empty device", blocks)
		}
	}
}

func TestNewDeviceKeepsNoFill(t *testing.T) {
	fill := blockOf(3)
	fill = append(fill, make([]byte, 896)...)
	before := bytes.Clone(fill)
	d := newDevice(t, 8, fill)
	turnDevice(d)
	if !bytes.Equal(fill, before) {
		t.Error("the device shares memory with fill")
	}
}

// Promise 1: a write is read back, all else reads as before, a flush changes no read.
func TestReadAfterWrite(t *testing.T) {
	for _, blocks := range []int64{8, 512} {
		d := newDevice(t, blocks, []byte{1, 2, 3, 4, 5})
		p := plainOf(d)
		for i, b := range []int64{0, blocks - 1, 3, 3, 3, 0} {
			d = mustWrite(t, d, b, blockOf(byte(100+i)))
			p.write(b, blockOf(byte(100+i)))
			wantReads(t, "after a write", d, p)
		}
		flushed, code := impl.DevFlush(d)
		wantCode(t, "flush", code, impl.OK)
		for b := range blocks {
			got, _ := impl.DevRead(flushed, b)
			if !bytes.Equal(got, p.read(b)) {
				t.Errorf("the flush changed what block %d reads", b)
			}
		}
		p.settle(func(int) bool { return true })
		wantReads(t, "after a flush", flushed, p)
	}
}

func TestFlushOfEmptyCache(t *testing.T) {
	d := newDevice(t, 8, []byte{7})
	e, code := impl.DevFlush(d)
	wantCode(t, "flush", code, impl.OK)
	if !sameDevice(d, e) {
		t.Error("a flush of an empty cache must change nothing")
	}
}

// writesOfFew has three writes of block 2, so that the youngest survivor is not always the youngest write.
func writesOfFew(t *testing.T) impl.Device {
	d := newDevice(t, 8, []byte{1, 2, 3})
	for i, b := range []int64{2, 5, 2, 0, 2, 5, 7} {
		d = mustWrite(t, d, b, blockOf(byte(10+i)))
	}
	return d
}

// Promise 1: after a crash each block reads as the youngest of its survivors.
func TestEveryCrashOfFewWrites(t *testing.T) {
	d := writesOfFew(t)
	for m := range 1 << len(d.Cache) {
		for _, keep := range [][]byte{{byte(m)}, {byte(m) | 0x80}, {byte(m), 0xFF, 0xFF}, {byte(m), 0}} {
			p := plainOf(d)
			p.settle(func(i int) bool { return m>>i&1 == 1 })
			e, code := impl.DevCrash(d, keep)
			wantCode(t, "crash", code, impl.OK)
			wantReads(t, "after a crash", e, p)
		}
	}
}

func TestCrashOfLongCache(t *testing.T) {
	d := newDevice(t, 9, []byte{200, 100})
	for i := range 21 {
		d = mustWrite(t, d, int64(i%9), blockOf(byte(i)))
	}
	for _, keep := range [][]byte{nil, {}, {0xFF}, {0, 0xFF}, {0x5A, 0xA5}, {0xFF, 0xFF, 0}, {0, 0, 0x10}, {0, 0, 0xEF}, {1, 2, 4, 8, 16}} {
		p := plainOf(d)
		p.settle(func(i int) bool { return i/8 < len(keep) && keep[i/8]&(1<<(i%8)) != 0 })
		e, code := impl.DevCrash(d, keep)
		wantCode(t, "crash", code, impl.OK)
		wantReads(t, "after a crash of a long cache", e, p)
	}
}

func TestDeviceAgainstPlainOne(t *testing.T) {
	r := rand.New(rand.NewSource(1))
	d := newDevice(t, 11, []byte{1, 2, 3, 5, 7, 11, 13})
	p := plainOf(d)
	for range 3000 {
		switch r.Intn(12) {
		case 0:
			d, _ = impl.DevFlush(d)
			p.settle(func(int) bool { return true })
		case 1:
			keep := make([]byte, r.Intn(4))
			r.Read(keep)
			d, _ = impl.DevCrash(d, keep)
			p.settle(func(i int) bool { return i/8 < len(keep) && keep[i/8]>>(i%8)%2 == 1 })
		default:
			data := make([]byte, 128)
			r.Read(data)
			b := r.Int63n(11)
			d = mustWrite(t, d, b, data)
			p.write(b, data)
		}
		wantReads(t, "in a row of calls", d, p)
	}
}

func TestFullCache(t *testing.T) {
	d := fullDevice()
	short := copyDevice(d)
	short.Cache = short.Cache[:impl.MaxPending-1]
	e, code := impl.DevWrite(short, 7, blockOf(255))
	wantCode(t, "the last write that fits", code, impl.OK)
	if !sameDevice(e, d) {
		t.Error("the last write that fits must make the cache full")
	}
	for _, row := range []struct {
		block int64
		data  []byte
		want  int64
	}{
		{3, blockOf(1), impl.ErrLimit},
		{3, blockOf(1)[:127], impl.ErrSize},
		{8, nil, impl.ErrRange},
	} {
		e, code := impl.DevWrite(d, row.block, row.data)
		wantCode(t, "write into a full cache", code, row.want)
		if !sameDevice(d, e) {
			t.Error("a refused write must answer a copy of the device")
		}
	}
	e, code = impl.DevApply(d, []impl.Step{{Kind: impl.StepFlush}, {Kind: impl.StepWrite, Block: 1, Data: blockOf(9)}}, 2)
	wantCode(t, "write after a flush", code, impl.OK)
	if len(e.Cache) != 1 {
		t.Errorf("%d writes in the cache, want 1", len(e.Cache))
	}
	p := plainOf(d)
	keep := bytes.Repeat([]byte{0xFF}, impl.MaxPending/8-1)
	p.settle(func(i int) bool { return i < impl.MaxPending-8 })
	e, code = impl.DevCrash(d, keep)
	wantCode(t, "crash of a full cache", code, impl.OK)
	wantReads(t, "crash of a full cache", e, p)
}

func TestRangeAndSize(t *testing.T) {
	d := writesOfFew(t)
	for _, b := range []int64{math.MinInt64, -1, 8, 9, 1 << 56, 1 << 57, math.MaxInt64} {
		got, code := impl.DevRead(d, b)
		wantCode(t, "read out of range", code, impl.ErrRange)
		if len(got) != 0 {
			t.Error("a refused read must answer no bytes")
		}
		for _, data := range [][]byte{nil, blockOf(1), make([]byte, 129)} {
			e, code := impl.DevWrite(d, b, data)
			wantCode(t, "write out of range", code, impl.ErrRange)
			if !sameDevice(d, e) {
				t.Error("a refused write must answer a copy of the device")
			}
		}
	}
	for _, size := range []int{0, 1, 127, 129, 256} {
		e, code := impl.DevWrite(d, 7, make([]byte, size))
		wantCode(t, "write of a wrong size", code, impl.ErrSize)
		if !sameDevice(d, e) {
			t.Error("a refused write must answer a copy of the device")
		}
	}
}

// brokenDevices has one device for each way not to be valid.
func brokenDevices() map[string]impl.Device {
	cache := func(ws ...impl.Pending) impl.Device {
		ws = append([]impl.Pending{{Block: 0, Data: blockOf(1)}}, ws...)
		return impl.Device{Blocks: 8, Disk: make([]byte, 1024), Cache: ws}
	}
	over := fullDevice()
	over.Cache = append(over.Cache, impl.Pending{Data: blockOf(1)})
	return map[string]impl.Device{
		"no device":            {},
		"7 blocks":             {Blocks: 7, Disk: make([]byte, 7*128)},
		"513 blocks":           {Blocks: 513, Disk: make([]byte, 513*128)},
		"-8 blocks":            {Blocks: -8, Disk: make([]byte, 1024)},
		"least blocks":         {Blocks: math.MinInt64},
		"most blocks":          {Blocks: math.MaxInt64, Disk: make([]byte, 1024)},
		"blocks that wrap":     {Blocks: 1<<57 + 8, Disk: make([]byte, 1024)},
		"blocks that wrap too": {Blocks: 1 << 57},
		"no disk":              {Blocks: 8},
		"short disk":           {Blocks: 8, Disk: make([]byte, 1023)},
		"long disk":            {Blocks: 8, Disk: make([]byte, 1025)},
		"disk of more blocks":  {Blocks: 8, Disk: make([]byte, 1152)},
		"cache too long":       over,
		"block -1":             cache(impl.Pending{Block: -1, Data: blockOf(1)}),
		"block 8":              cache(impl.Pending{Block: 8, Data: blockOf(1)}),
		"least block":          cache(impl.Pending{Block: math.MinInt64, Data: blockOf(1)}),
		"most block":           cache(impl.Pending{Block: math.MaxInt64, Data: blockOf(1)}),
		"no data":              cache(impl.Pending{Block: 1}),
		"short data":           cache(impl.Pending{Block: 1, Data: make([]byte, 127)}),
		"long data":            cache(impl.Pending{Block: 1, Data: make([]byte, 129)}),
		"bad ahead of good":    cache(impl.Pending{Block: 8, Data: blockOf(1)}, impl.Pending{Block: 1, Data: blockOf(1)}),
	}
}

func TestBrokenDevices(t *testing.T) {
	for name, d := range brokenDevices() {
		got, code := impl.DevRead(d, -1)
		wantCode(t, name+": read", code, impl.ErrDevice)
		if len(got) != 0 {
			t.Errorf("%s: a refused read must answer no bytes", name)
		}
		_, code = impl.DevRead(d, 0)
		wantCode(t, name+": read of block 0", code, impl.ErrDevice)
		calls := map[string]func() (impl.Device, int64){
			"write":               func() (impl.Device, int64) { return impl.DevWrite(d, 1, blockOf(1)) },
			"write out of range":  func() (impl.Device, int64) { return impl.DevWrite(d, -1, nil) },
			"flush":               func() (impl.Device, int64) { return impl.DevFlush(d) },
			"crash":               func() (impl.Device, int64) { return impl.DevCrash(d, []byte{1}) },
			"crash of all":        func() (impl.Device, int64) { return impl.DevCrash(d, nil) },
			"no steps":            func() (impl.Device, int64) { return impl.DevApply(d, nil, 0) },
			"step without a kind": func() (impl.Device, int64) { return impl.DevApply(d, []impl.Step{{}}, 1) },
			"too many steps":      func() (impl.Device, int64) { return impl.DevApply(d, make([]impl.Step, impl.MaxSteps+1), 1) },
		}
		for call, f := range calls {
			e, code := f()
			wantCode(t, name+": "+call, code, impl.ErrDevice)
			if !sameDevice(e, impl.Device{}) {
				t.Errorf("%s: %s must answer an empty device", name, call)
			}
		}
	}
}

func TestApplyCounts(t *testing.T) {
	d := newDevice(t, 8, []byte{1})
	steps := []impl.Step{
		{Kind: impl.StepWrite, Block: 1, Data: blockOf(11)},
		{Kind: impl.StepWrite, Block: 1, Data: blockOf(12)},
		{Kind: impl.StepFlush, Block: -5, Data: []byte{1}},
		{Kind: impl.StepWrite, Block: 7, Data: blockOf(13)},
	}
	for _, row := range []struct{ count, done int64 }{
		{math.MinInt64, 0}, {-1, 0}, {0, 0}, {1, 1}, {2, 2}, {3, 3}, {4, 4}, {5, 4}, {math.MaxInt64, 4},
	} {
		p := plainOf(d)
		for _, s := range steps[:row.done] {
			if s.Kind == impl.StepWrite {
				p.write(s.Block, s.Data)
			} else {
				p.settle(func(int) bool { return true })
			}
		}
		e, code := impl.DevApply(d, steps, row.count)
		wantCode(t, "apply", code, impl.OK)
		wantReads(t, "after some steps", e, p)
	}
}

func TestApplyStopsAtRefusal(t *testing.T) {
	d := newDevice(t, 8, []byte{1})
	for name, row := range map[string]struct {
		bad  impl.Step
		want int64
	}{
		"kind 0":          {impl.Step{Data: blockOf(1)}, impl.ErrForm},
		"kind 3":          {impl.Step{Kind: 3, Block: 99}, impl.ErrForm},
		"kind -1":         {impl.Step{Kind: -1}, impl.ErrForm},
		"greatest kind":   {impl.Step{Kind: math.MaxInt64}, impl.ErrForm},
		"kind that wraps": {impl.Step{Kind: 1<<32 + 1, Data: blockOf(1)}, impl.ErrForm},
		"block 8":         {impl.Step{Kind: impl.StepWrite, Block: 8}, impl.ErrRange},
		"short data":      {impl.Step{Kind: impl.StepWrite, Block: 1, Data: []byte{1}}, impl.ErrSize},
	} {
		steps := []impl.Step{
			{Kind: impl.StepWrite, Block: 1, Data: blockOf(1)},
			{Kind: impl.StepFlush},
			{Kind: impl.StepWrite, Block: 2, Data: blockOf(2)},
			row.bad,
			{Kind: impl.StepFlush},
		}
		p := plainOf(d)
		p.write(1, blockOf(1))
		p.settle(func(int) bool { return true })
		p.write(2, blockOf(2))
		e, code := impl.DevApply(d, steps, 5)
		wantCode(t, name, code, row.want)
		wantReads(t, name, e, p)
		_, code = impl.DevApply(d, steps, 3)
		wantCode(t, name+", not reached", code, impl.OK)
	}
}

func TestApplyLimits(t *testing.T) {
	d := writesOfFew(t)
	flushes := make([]impl.Step, impl.MaxSteps+1)
	for i := range flushes {
		flushes[i].Kind = impl.StepFlush
	}
	for _, count := range []int64{-1, 0, 1, impl.MaxSteps + 1} {
		e, code := impl.DevApply(d, flushes, count)
		wantCode(t, "too many steps", code, impl.ErrLimit)
		if !sameDevice(d, e) {
			t.Error("too many steps: the device must be a copy of the one handed in")
		}
	}
	_, code := impl.DevApply(d, make([]impl.Step, impl.MaxSteps+1), 1)
	wantCode(t, "too many steps ahead of a wrong kind", code, impl.ErrLimit)
	e, code := impl.DevApply(d, flushes[1:], impl.MaxSteps)
	wantCode(t, "as many steps as may be", code, impl.OK)
	if len(e.Cache) != 0 {
		t.Error("the flush steps must empty the cache")
	}
	writes := make([]impl.Step, impl.MaxPending+1)
	for i := range writes {
		writes[i] = impl.Step{Kind: impl.StepWrite, Block: int64(i % 8), Data: blockOf(byte(i))}
	}
	e, code = impl.DevApply(newDevice(t, 8, nil), writes, impl.MaxPending+1)
	wantCode(t, "one write more than the cache takes", code, impl.ErrLimit)
	if !sameDevice(e, fullDevice()) {
		t.Error("the writes ahead of the refused one must be in the cache")
	}
}

// devCalls has each call that answers a device, refused and not.
func devCalls() map[string]func(d impl.Device, data, keep []byte, steps []impl.Step) impl.Device {
	type call = func(d impl.Device, data, keep []byte, steps []impl.Step) impl.Device
	return map[string]call{
		"write": func(d impl.Device, data, _ []byte, _ []impl.Step) impl.Device {
			e, _ := impl.DevWrite(d, 1, data)
			return e
		},
		"refused write": func(d impl.Device, data, _ []byte, _ []impl.Step) impl.Device {
			e, _ := impl.DevWrite(d, -1, data)
			return e
		},
		"write of a wrong size": func(d impl.Device, data, _ []byte, _ []impl.Step) impl.Device {
			e, _ := impl.DevWrite(d, 1, data[:5])
			return e
		},
		"flush": func(d impl.Device, _, _ []byte, _ []impl.Step) impl.Device {
			e, _ := impl.DevFlush(d)
			return e
		},
		"crash": func(d impl.Device, _, keep []byte, _ []impl.Step) impl.Device {
			e, _ := impl.DevCrash(d, keep)
			return e
		},
		"no steps": func(d impl.Device, _, _ []byte, steps []impl.Step) impl.Device {
			e, _ := impl.DevApply(d, steps, 0)
			return e
		},
		"writes": func(d impl.Device, _, _ []byte, steps []impl.Step) impl.Device {
			e, _ := impl.DevApply(d, steps, 2)
			return e
		},
		"steps with a wrong one": func(d impl.Device, _, _ []byte, steps []impl.Step) impl.Device {
			e, _ := impl.DevApply(d, steps, 9)
			return e
		},
		"too many steps": func(d impl.Device, _, _ []byte, _ []impl.Step) impl.Device {
			e, _ := impl.DevApply(d, make([]impl.Step, impl.MaxSteps+1), 9)
			return e
		},
	}
}

func TestDeviceSharesNothing(t *testing.T) {
	for name, call := range devCalls() {
		d := writesOfFew(t)
		d.Cache = append(make([]impl.Pending, 0, 40), d.Cache...)
		data, keep := blockOf(77), []byte{0x55}
		steps := []impl.Step{
			{Kind: impl.StepWrite, Block: 3, Data: data},
			{Kind: impl.StepWrite, Block: 4, Data: data},
			{Kind: impl.StepFlush},
			{Kind: impl.StepWrite, Block: 3, Data: data},
			{Kind: 9},
		}
		before := copyDevice(d)
		untouched := func(when string) {
			spare := d.Cache[:cap(d.Cache)][len(d.Cache):]
			for _, w := range spare {
				if w.Block != 0 || w.Data != nil {
					t.Errorf("%s: %s the call, the spare room of the cache is not as before", name, when)
				}
			}
			if !sameDevice(d, before) || !bytes.Equal(data, blockOf(77)) || keep[0] != 0x55 || steps[0].Block != 3 || steps[4].Kind != 9 {
				t.Errorf("%s: %s the call, an argument is not as before", name, when)
			}
		}
		e := call(d, data, keep, steps)
		untouched("after")
		wantApart(t, name, e)
		again := call(d, data, keep, steps)
		if !sameDevice(e, again) {
			t.Errorf("%s: the same call gives another answer", name)
		}
		turnDevice(e)
		untouched("after a change of the answer of")
		if third := call(d, data, keep, steps); !sameDevice(again, third) {
			t.Errorf("%s: a change of an answer changes a later one", name)
		}
	}
}

func TestReadSharesNothing(t *testing.T) {
	d := writesOfFew(t)
	before := copyDevice(d)
	for _, b := range []int64{1, 2} {
		got, _ := impl.DevRead(d, b)
		turnBytes(got)
		if !sameDevice(d, before) {
			t.Errorf("the bytes that block %d reads share memory with the device", b)
		}
	}
}
