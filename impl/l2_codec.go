package impl

import (
	"errors"
	"strconv"
)

const (
	KindLeaf      = 1
	KindInner     = 2
	KindTable     = 3
	KindSuper     = 4
	MinEntries    = 2
	MaxEntries    = 5
	MaxKey        = 12
	MaxVal        = 10
	RunsPerBlock  = 20
	MaxCount      = 65535
	MaxTrees      = 16
	MaxTreeID     = 65535
	MaxGeneration = 1 << 40
)

// Entry is an item of a leaf or a child of an inner node.
type Entry struct {
	Key   string
	Val   string
	Child int64
}

// Node is a node of a tree.
type Node struct {
	Kind    int64
	Entries []Entry
}

// Run is a stretch of blocks with one count.
type Run struct {
	Start int64
	Len   int64
	Count int64
}

// Table is one block of the table of counts.
type Table struct {
	Next int64
	Runs []Run
}

// Root is a live tree.
type Root struct {
	Tree  int64
	Block int64
}

// Super is a superblock.
type Super struct {
	Blocks     int64
	Generation int64
	Next       int64
	Table      int64
	Roots      []Root
}

// Where the fields lie in a block, and where they lie in an entry.
const (
	sumAt     = BlockSize - 4
	entryAt   = 4
	entrySize = 24
	tailAt    = 1 + MaxKey
	runAt     = 4
	runSize   = 6
	rootAt    = 16
	rootSize  = 4
)

const crcPolynomial = 0xEDB88320

var (
	errSize   = errors.New("the block has not its size")
	errSum    = errors.New("the sum is not that of the bytes ahead of it")
	errKind   = errors.New("the kind is none of a block")
	errNumber = errors.New("too few or too many elements")
	errBound  = errors.New("a field is out of its bounds")
	errOrder  = errors.New("an element does not follow the one before")
	errRest   = errors.New("a byte that must be zero is not")
)

// placeError keeps the place beside the fault, as the sentinel alone can't tell it.
type placeError struct {
	place int
	fault error
}

func (e *placeError) Error() string {
	return e.fault.Error() + ", at byte " + strconv.Itoa(e.place)
}

func (e *placeError) Unwrap() error {
	return e.fault
}

// codeOf knows size and sum by their sentinels; every other fault that has a place is one of form.
func codeOf(err error) int64 {
	var placed *placeError
	switch {
	case err == nil:
		return OK
	case errors.Is(err, errSize):
		return ErrSize
	case errors.Is(err, errSum):
		return ErrSum
	case errors.As(err, &placed):
		return ErrForm
	}
	return ErrCorrupt
}

// form is what the four kinds of blocks have in common. lay is asked only of what check lets pass; it leaves the sum open.
type form interface {
	check() error
	lay() rawBlock
}

// header is the part that every form begins with.
type header struct {
	kind   int64
	number int64
}

func headerOf(kind int64, number int) header {
	return header{kind: kind, number: int64(number)}
}

// checkNumber comes ahead of all other checks: nothing is read or laid down beyond the bounds of the kind.
func (h header) checkNumber() error {
	least, most := int64(0), int64(0)
	switch h.kind {
	case KindLeaf:
		most = MaxEntries
	case KindInner:
		least, most = MinEntries, MaxEntries
	case KindTable:
		most = RunsPerBlock
	case KindSuper:
		least, most = 1, MaxTrees
	default:
		return &placeError{0, errKind}
	}
	if !within(h.number, least, most) {
		return &placeError{1, errNumber}
	}
	return nil
}

func (h header) begin() rawBlock {
	var b rawBlock
	b[0] = byte(h.kind)
	b[1] = byte(h.number)
	return b
}

type leafForm struct {
	header
	entries []Entry
}

type innerForm struct {
	header
	entries []Entry
}

type tableForm struct {
	header
	Table
}

type superForm struct {
	header
	Super
}

func putNumber(field []byte, value int64) {
	for i := range field {
		field[i] = byte(value >> (8 * i))
	}
}

func getNumber(field []byte) int64 {
	value := int64(0)
	for i, b := range field {
		value |= int64(b) << (8 * i)
	}
	return value
}

func putText(field []byte, text string) {
	field[0] = byte(len(text))
	copy(field[1:], text)
}

// getText refuses a length beyond the field, so that no later check has to read outside it.
func getText(field []byte) (string, bool) {
	length := int(field[0])
	if length >= len(field) {
		return "", false
	}
	return string(field[1 : 1+length]), true
}

func checkKeys(entries []Entry) error {
	for i, e := range entries {
		at := entryAt + entrySize*i
		if len(e.Key) > MaxKey {
			return &placeError{at, errBound}
		}
		if i > 0 && e.Key <= entries[i-1].Key {
			return &placeError{at, errOrder}
		}
	}
	return nil
}

func (f leafForm) check() error {
	if err := f.checkNumber(); err != nil {
		return err
	}
	for i, e := range f.entries {
		if len(e.Val) > MaxVal || e.Child != 0 {
			return &placeError{entryAt + entrySize*i + tailAt, errBound}
		}
	}
	return checkKeys(f.entries)
}

func (f leafForm) lay() rawBlock {
	b := f.begin()
	for i, e := range f.entries {
		field := b[entryAt+entrySize*i:][:entrySize]
		putText(field[:tailAt], e.Key)
		putText(field[tailAt:], e.Val)
	}
	return b
}

func readLeaf(h header, b rawBlock) (form, error) {
	entries := make([]Entry, h.number)
	for i := range entries {
		at := entryAt + entrySize*i
		key, keyFits := getText(b[at : at+tailAt])
		val, valFits := getText(b[at+tailAt : at+entrySize])
		if !keyFits || !valFits {
			return nil, &placeError{at, errBound}
		}
		entries[i] = Entry{Key: key, Val: val}
	}
	return leafForm{h, entries}, nil
}

func (f innerForm) check() error {
	if err := f.checkNumber(); err != nil {
		return err
	}
	for i, e := range f.entries {
		if e.Val != "" || !within(e.Child, 2, MaxBlocks-1) {
			return &placeError{entryAt + entrySize*i + tailAt, errBound}
		}
	}
	return checkKeys(f.entries)
}

func (f innerForm) lay() rawBlock {
	b := f.begin()
	for i, e := range f.entries {
		field := b[entryAt+entrySize*i:][:entrySize]
		putText(field[:tailAt], e.Key)
		putNumber(field[tailAt:tailAt+2], e.Child)
	}
	return b
}

func readInner(h header, b rawBlock) (form, error) {
	entries := make([]Entry, h.number)
	for i := range entries {
		at := entryAt + entrySize*i
		key, fits := getText(b[at : at+tailAt])
		if !fits {
			return nil, &placeError{at, errBound}
		}
		entries[i] = Entry{Key: key, Child: getNumber(b[at+tailAt : at+tailAt+2])}
	}
	return innerForm{h, entries}, nil
}

// inBounds looks at Start and Len one by one before it adds them: both are free numbers of the caller's.
func (r Run) inBounds() bool {
	return within(r.Start, 2, MaxBlocks) && within(r.Len, 1, MaxBlocks) &&
		r.Start+r.Len <= MaxBlocks && within(r.Count, 1, MaxCount)
}

// mayFollow is false of neighbours with one count, as they would be one run.
func (r Run) mayFollow(before Run) bool {
	end := before.Start + before.Len
	return r.Start > end || r.Start == end && r.Count != before.Count
}

func checkRuns(runs []Run) error {
	for i, r := range runs {
		at := runAt + runSize*i
		if !r.inBounds() {
			return &placeError{at, errBound}
		}
		if i > 0 && !r.mayFollow(runs[i-1]) {
			return &placeError{at, errOrder}
		}
	}
	return nil
}

func (f tableForm) check() error {
	if err := f.checkNumber(); err != nil {
		return err
	}
	if f.Next != 0 && !within(f.Next, 2, MaxBlocks-1) {
		return &placeError{2, errBound}
	}
	return checkRuns(f.Runs)
}

func (f tableForm) lay() rawBlock {
	b := f.begin()
	putNumber(b[2:4], f.Next)
	for i, r := range f.Runs {
		field := b[runAt+runSize*i:][:runSize]
		putNumber(field[0:2], r.Start)
		putNumber(field[2:4], r.Len)
		putNumber(field[4:6], r.Count)
	}
	return b
}

func readTable(h header, b rawBlock) form {
	runs := make([]Run, h.number)
	for i := range runs {
		field := b[runAt+runSize*i:][:runSize]
		runs[i] = Run{
			Start: getNumber(field[0:2]),
			Len:   getNumber(field[2:4]),
			Count: getNumber(field[4:6]),
		}
	}
	return tableForm{h, Table{Next: getNumber(b[2:4]), Runs: runs}}
}

func (f superForm) checkFields() error {
	if !within(f.Blocks, MinBlocks, MaxBlocks) {
		return &placeError{2, errBound}
	}
	if !within(f.Generation, 1, MaxGeneration) {
		return &placeError{4, errBound}
	}
	if !within(f.Next, 1, MaxTreeID) {
		return &placeError{12, errBound}
	}
	if !within(f.Table, 2, f.Blocks-1) {
		return &placeError{14, errBound}
	}
	return nil
}

func (f superForm) checkRoots() error {
	for i, r := range f.Roots {
		at := rootAt + rootSize*i
		if !within(r.Tree, 0, f.Next-1) || !within(r.Block, 2, f.Blocks-1) {
			return &placeError{at, errBound}
		}
		if i > 0 && r.Tree <= f.Roots[i-1].Tree {
			return &placeError{at, errOrder}
		}
	}
	return nil
}

// check bounds the fields first: the roots are held against Next and Blocks.
func (f superForm) check() error {
	if err := f.checkNumber(); err != nil {
		return err
	}
	if err := f.checkFields(); err != nil {
		return err
	}
	return f.checkRoots()
}

func (f superForm) lay() rawBlock {
	b := f.begin()
	putNumber(b[2:4], f.Blocks)
	putNumber(b[4:12], f.Generation)
	putNumber(b[12:14], f.Next)
	putNumber(b[14:16], f.Table)
	for i, r := range f.Roots {
		field := b[rootAt+rootSize*i:][:rootSize]
		putNumber(field[0:2], r.Tree)
		putNumber(field[2:4], r.Block)
	}
	return b
}

func readSuper(h header, b rawBlock) form {
	roots := make([]Root, h.number)
	for i := range roots {
		field := b[rootAt+rootSize*i:][:rootSize]
		roots[i] = Root{Tree: getNumber(field[0:2]), Block: getNumber(field[2:4])}
	}
	return superForm{h, Super{
		Blocks:     getNumber(b[2:4]),
		Generation: getNumber(b[4:12]),
		Next:       getNumber(b[12:14]),
		Table:      getNumber(b[14:16]),
		Roots:      roots,
	}}
}

func sealed(b rawBlock) rawBlock {
	putNumber(b[sumAt:], int64(Crc32(b[:sumAt])))
	return b
}

func unsealed(b rawBlock) rawBlock {
	clear(b[sumAt:])
	return b
}

func encodeForm(f form) ([]byte, error) {
	if err := f.check(); err != nil {
		return nil, err
	}
	b := sealed(f.lay())
	return b[:], nil
}

// readForm takes the fields as they stand; whether they are valid is asked of the form afterwards.
func readForm(b rawBlock) (form, error) {
	h := header{kind: int64(b[0]), number: int64(b[1])}
	if err := h.checkNumber(); err != nil {
		return nil, err
	}
	switch h.kind {
	case KindLeaf:
		return readLeaf(h, b)
	case KindInner:
		return readInner(h, b)
	case KindTable:
		return readTable(h, b), nil
	}
	return readSuper(h, b), nil
}

// decodeForm lays the form down anew and compares: so each byte that must be zero is looked at.
func decodeForm(data []byte) (form, error) {
	if len(data) != BlockSize {
		return nil, &placeError{len(data), errSize}
	}
	b := rawBlock(data)
	if sealed(b) != b {
		return nil, &placeError{sumAt, errSum}
	}
	f, err := readForm(b)
	if err != nil {
		return nil, err
	}
	if err := f.check(); err != nil {
		return nil, err
	}
	laid := f.lay()
	if laid != unsealed(b) {
		return nil, &placeError{firstDifference(laid, b), errRest}
	}
	return f, nil
}

func firstDifference(a, b rawBlock) int {
	at := 0
	for at < sumAt && a[at] == b[at] {
		at++
	}
	return at
}

func formOfNode(n Node) (form, error) {
	h := headerOf(n.Kind, len(n.Entries))
	switch n.Kind {
	case KindLeaf:
		return leafForm{h, n.Entries}, nil
	case KindInner:
		return innerForm{h, n.Entries}, nil
	}
	return nil, &placeError{0, errKind}
}

// Crc32 is the sum of a block.
func Crc32(data []byte) uint32 {
	register := uint32(0xFFFFFFFF)
	for _, b := range data {
		register ^= uint32(b)
		for range 8 {
			// -(lowest bit) is all ones or all zeros: a mask where a branch would be guessed wrong half the time.
			register = register>>1 ^ crcPolynomial&-(register&1)
		}
	}
	return register ^ 0xFFFFFFFF
}

// EncodeNode lays a node down.
func EncodeNode(n Node) ([]byte, int64) {
	f, err := formOfNode(n)
	if err != nil {
		return nil, codeOf(err)
	}
	block, err := encodeForm(f)
	return block, codeOf(err)
}

// DecodeNode reads a node.
func DecodeNode(block []byte) (Node, int64) {
	f, err := decodeForm(block)
	if err != nil {
		return Node{}, codeOf(err)
	}
	switch x := f.(type) {
	case leafForm:
		return Node{Kind: x.kind, Entries: x.entries}, OK
	case innerForm:
		return Node{Kind: x.kind, Entries: x.entries}, OK
	}
	return Node{}, ErrForm
}

// EncodeTable lays a table block down.
func EncodeTable(t Table) ([]byte, int64) {
	block, err := encodeForm(tableForm{headerOf(KindTable, len(t.Runs)), t})
	return block, codeOf(err)
}

// DecodeTable reads a table block.
func DecodeTable(block []byte) (Table, int64) {
	f, err := decodeForm(block)
	if err != nil {
		return Table{}, codeOf(err)
	}
	switch x := f.(type) {
	case tableForm:
		return x.Table, OK
	}
	return Table{}, ErrForm
}

// EncodeSuper lays a superblock down.
func EncodeSuper(s Super) ([]byte, int64) {
	block, err := encodeForm(superForm{headerOf(KindSuper, len(s.Roots)), s})
	return block, codeOf(err)
}

// DecodeSuper reads a superblock.
func DecodeSuper(block []byte) (Super, int64) {
	f, err := decodeForm(block)
	if err != nil {
		return Super{}, codeOf(err)
	}
	switch x := f.(type) {
	case superForm:
		return x.Super, OK
	}
	return Super{}, ErrForm
}
