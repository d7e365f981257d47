package impl

import "bytes"

// Codes, shared by all layers.
const (
	OK          = 0
	ErrDevice   = 1
	ErrRange    = 2
	ErrSize     = 3
	ErrLimit    = 4
	ErrForm     = 5
	ErrSum      = 6
	ErrNoSpace  = 7
	ErrNoTree   = 8
	ErrNotFound = 9
	ErrCorrupt  = 10
	ErrSyntax   = 11
	ErrPath     = 12
	ErrExist    = 13
	ErrNotDir   = 14
	ErrIsDir    = 15
	ErrNotEmpty = 16
	ErrInside   = 17
	ErrLast     = 18
	ErrRoot     = 19
)

const (
	BlockSize  = 128
	MinBlocks  = 8
	MaxBlocks  = 512
	MaxPending = 2048
	MaxSteps   = 4096
	StepWrite  = 1
	StepFlush  = 2
)

// Pending is one write in the cache.
type Pending struct {
	Block int64
	Data  []byte
}

// Device is a disk with a cache of writes that a crash may lose.
type Device struct {
	Blocks int64
	Disk   []byte
	Cache  []Pending
}

// Step is one action on a device.
type Step struct {
	Kind  int64
	Block int64
	Data  []byte
}

// rawBlock is an array, so that one assignment copies a block and one == compares two.
type rawBlock [BlockSize]byte

func blockAt(disk []byte, number int64) rawBlock {
	at := number * BlockSize
	return rawBlock(disk[at : at+BlockSize])
}

func putBlock(disk []byte, number int64, b rawBlock) {
	at := number * BlockSize
	copy(disk[at:at+BlockSize], b[:])
}

func within(value, least, most int64) bool {
	return least <= value && value <= most
}

// valid bounds Blocks before it is multiplied: it is a free number of the caller's.
func (d Device) valid() bool {
	if !within(d.Blocks, MinBlocks, MaxBlocks) {
		return false
	}
	if int64(len(d.Disk)) != d.Blocks*BlockSize || len(d.Cache) > MaxPending {
		return false
	}
	for _, w := range d.Cache {
		if !d.has(w.Block) || len(w.Data) != BlockSize {
			return false
		}
	}
	return true
}

func (d Device) has(block int64) bool {
	return within(block, 0, d.Blocks-1)
}

// fresh is a copy down to the bytes: an answer shares no memory with an argument.
func (d Device) fresh() Device {
	cache := make([]Pending, len(d.Cache))
	for i, w := range d.Cache {
		cache[i] = Pending{Block: w.Block, Data: bytes.Clone(w.Data)}
	}
	return Device{Blocks: d.Blocks, Disk: bytes.Clone(d.Disk), Cache: cache}
}

// write changes the device in place; only a call's own fresh copy is handed to it.
func (d *Device) write(block int64, data []byte) int64 {
	if !d.has(block) {
		return ErrRange
	}
	if len(data) != BlockSize {
		return ErrSize
	}
	if len(d.Cache) >= MaxPending {
		return ErrLimit
	}
	d.Cache = append(d.Cache, Pending{Block: block, Data: bytes.Clone(data)})
	return OK
}

// flush changes the device in place, as write does.
func (d *Device) flush() {
	for _, w := range d.Cache {
		putBlock(d.Disk, w.Block, rawBlock(w.Data))
	}
	d.Cache = nil
}

func (d *Device) apply(s Step) int64 {
	switch s.Kind {
	case StepWrite:
		return d.write(s.Block, s.Data)
	case StepFlush:
		d.flush()
		return OK
	}
	return ErrForm
}

func survivors(cache []Pending, keep []byte) []Pending {
	var left []Pending
	for i, w := range cache {
		if i/8 < len(keep) && keep[i/8]>>(i%8)&1 == 1 {
			left = append(left, w)
		}
	}
	return left
}

// NewDevice makes a device that is filled with a pattern.
func NewDevice(blocks int64, fill []byte) (Device, int64) {
	if !within(blocks, MinBlocks, MaxBlocks) {
		return Device{}, ErrDevice
	}
	disk := make([]byte, blocks*BlockSize)
	if len(fill) > 0 {
		for i := range disk {
			disk[i] = fill[i%len(fill)]
		}
	}
	return Device{Blocks: blocks, Disk: disk}, OK
}

// DevRead reads a block as a reader sees it.
func DevRead(d Device, block int64) ([]byte, int64) {
	if !d.valid() {
		return nil, ErrDevice
	}
	if !d.has(block) {
		return nil, ErrRange
	}
	seen := blockAt(d.Disk, block)
	for _, w := range d.Cache {
		if w.Block == block {
			seen = rawBlock(w.Data)
		}
	}
	return seen[:], OK
}

// DevWrite puts a write into the cache.
func DevWrite(d Device, block int64, data []byte) (Device, int64) {
	if !d.valid() {
		return Device{}, ErrDevice
	}
	after := d.fresh()
	code := after.write(block, data)
	return after, code
}

// DevFlush puts the cache onto the disk.
func DevFlush(d Device) (Device, int64) {
	if !d.valid() {
		return Device{}, ErrDevice
	}
	after := d.fresh()
	after.flush()
	return after, OK
}

// DevCrash loses the writes of the cache that keep does not name.
func DevCrash(d Device, keep []byte) (Device, int64) {
	if !d.valid() {
		return Device{}, ErrDevice
	}
	after := d.fresh()
	after.Cache = survivors(after.Cache, keep)
	after.flush()
	return after, OK
}

// DevApply carries out the first count steps.
func DevApply(d Device, steps []Step, count int64) (Device, int64) {
	if !d.valid() {
		return Device{}, ErrDevice
	}
	after := d.fresh()
	if len(steps) > MaxSteps {
		return after, ErrLimit
	}
	first := steps[:max(0, min(count, int64(len(steps))))]
	for _, s := range first {
		if code := after.apply(s); code != OK {
			return after, code
		}
	}
	return after, OK
}
