package tests

import (
	"maps"
	"slices"
	"strconv"
	"strings"

	"loop.example/s01595/impl"
)

// plainFile is a file or a directory of a plain map. stored has the length of each piece that has an item.
type plainFile struct {
	dir    bool
	ino    int64
	bytes  []byte
	stored map[int64]int
}

// plainTree maps each path but "/" to what is there.
type plainTree map[string]*plainFile

func (t plainTree) at(path string) *plainFile {
	if path == "/" {
		return &plainFile{dir: true, ino: 1}
	}
	return t[path]
}

// cutPath parts a path other than "/" into its directory and its last name.
func cutPath(path string) (dir, name string) {
	at := strings.LastIndex(path, "/")
	if at == 0 {
		return "/", path[1:]
	}
	return path[:at], path[at+1:]
}

// finding looks at every path on the way, the shortest first.
func (t plainTree) finding(path string) int64 {
	for at := 1; at < len(path); at++ {
		if path[at] != '/' {
			continue
		}
		f := t[path[:at]]
		if f == nil {
			return impl.ErrNotFound
		}
		if !f.dir {
			return impl.ErrNotDir
		}
	}
	return impl.OK
}

func (t plainTree) namesIn(dir string) []string {
	var names []string
	for path := range t {
		if above, name := cutPath(path); above == dir {
			names = append(names, name)
		}
	}
	slices.Sort(names)
	return names
}

func (t plainTree) least() int64 {
	taken := map[int64]int{}
	for _, f := range t {
		taken[f.ino]++
	}
	ino := int64(2)
	for taken[ino] > 0 {
		ino++
	}
	return ino
}

func key(ino int64, tag byte, rest string) string {
	return string([]byte{byte(ino / 256), byte(ino % 256), tag}) + rest
}

func whatItIs(f *plainFile) string {
	if f.dir {
		return "\x02"
	}
	return string([]byte{1, byte(len(f.bytes) % 256), byte(len(f.bytes) / 256)})
}

func two(ino int64) string {
	return string([]byte{byte(ino / 256), byte(ino % 256)})
}

// items is what has to lie in the tree.
func (t plainTree) items() []impl.Item {
	out := []impl.Item{}
	for path, f := range t {
		dir, name := cutPath(path)
		out = append(out, impl.Item{Key: key(f.ino, 1, ""), Val: whatItIs(f)}, impl.Item{Key: key(t.at(dir).ino, 2, name), Val: two(f.ino)})
		for x, length := range f.stored {
			out = append(out, impl.Item{Key: key(f.ino, 3, string([]byte{byte(x)})), Val: string(f.bytes[10*x:][:length])})
		}
	}
	slices.SortFunc(out, func(a, b impl.Item) int { return strings.Compare(a.Key, b.Key) })
	return out
}

// plainTreeOf reads items that are a file tree.
func plainTreeOf(items []impl.Item) plainTree {
	vals := map[string]string{}
	for _, i := range items {
		vals[i.Key] = i.Val
	}
	t := plainTree{}
	var walk func(dir string, ino int64)
	walk = func(dir string, ino int64) {
		for _, k := range slices.Sorted(maps.Keys(vals)) {
			name, found := strings.CutPrefix(k, key(ino, 2, ""))
			if !found {
				continue
			}
			f := plainFileOf(vals, int64(vals[k][0])*256+int64(vals[k][1]))
			t[dir+"/"+name] = f
			walk(dir+"/"+name, f.ino)
		}
	}
	walk("", 1)
	return t
}

func plainFileOf(vals map[string]string, ino int64) *plainFile {
	is := vals[key(ino, 1, "")]
	if is == "\x02" {
		return &plainFile{dir: true, ino: ino}
	}
	f := &plainFile{ino: ino, bytes: make([]byte, int(is[1])+256*int(is[2])), stored: map[int64]int{}}
	for x := range int64(100) {
		if val, there := vals[key(ino, 3, string([]byte{byte(x)}))]; there {
			copy(f.bytes[10*x:], val)
			f.stored[x] = len(val)
		}
	}
	return f
}

// walk tells the files as a walk meets them: of two paths the one comes first that has the lesser name where they part.
func (t plainTree) walk() []impl.File {
	out := []impl.File{}
	for path, f := range t {
		kind := int64(impl.FileKind)
		if f.dir {
			kind = impl.DirKind
		}
		out = append(out, impl.File{Path: path, Kind: kind, Size: int64(len(f.bytes)), Data: string(f.bytes)})
	}
	slices.SortFunc(out, func(a, b impl.File) int {
		return slices.Compare(strings.Split(a.Path, "/"), strings.Split(b.Path, "/"))
	})
	return out
}

// plainPath is SplitPath's code by a look at one byte after the other.
func plainPath(path string) int64 {
	if len(path) > 200 {
		return impl.ErrLimit
	}
	if path == "" || path[0] != '/' {
		return impl.ErrPath
	}
	if path == "/" {
		return impl.OK
	}
	names := 0
	for rest := path; rest != ""; {
		rest = rest[1:]
		length := strings.IndexByte(rest+"/", '/')
		if length == 0 || strings.ContainsFunc(rest[:length], func(r rune) bool { return r < '!' || r > '~' }) {
			return impl.ErrPath
		}
		if length > 8 {
			return impl.ErrLimit
		}
		rest = rest[length:]
		names++
	}
	if names > 16 {
		return impl.ErrLimit
	}
	return impl.OK
}

// effect is what a line comes to, if there is room for its puts and deletes.
type effect struct {
	answer impl.Answer
	ops    []impl.TreeOp
	change func()
}

func refusal(code int64) effect {
	return effect{answer: impl.Answer{Code: code}}
}

// plainTrees has one plain map a clone.
type plainTrees map[int64]plainTree

// copied is enough as it is: a file of a plain map is replaced, never changed.
func (t plainTrees) copied() plainTrees {
	out := plainTrees{}
	for tree, files := range t {
		out[tree] = maps.Clone(files)
	}
	return out
}

// itemCount is what U and C of promise 13 are made of.
func (t plainTrees) itemCount() int64 {
	sum := int64(0)
	for _, files := range t {
		sum += max(1, int64(len(files.items())))
	}
	return sum
}

// plainScript answers the lines of a script by plain maps. The slow forest below tells just when room is wanting, the space, and what a commit writes.
type plainScript struct {
	forest *plainForest
	trees  plainTrees
	// saved are the maps of the last commit, disk is what it left.
	saved plainTrees
	disk  []byte
	// linePuts is the number of the line's own puts, of which promises 13 and 19 speak.
	linePuts int64
	// dips counts the lines that were made although the reserve was missed in their midst; begun and landed the crashes that lost a sync and those that did not.
	dips, begun, landed int
}

func newPlainScript(disk []byte) *plainScript {
	s := &plainScript{forest: plainMount(disk).forest(), trees: plainTrees{}, disk: disk}
	for _, r := range s.forest.roots {
		s.trees[r.Tree] = plainTreeOf(s.forest.items(r.Block))
	}
	s.saved = s.trees.copied()
	return s
}

// mayLackSpace is the bound of the promises.
func (s *plainScript) mayLackSpace() bool {
	blocks := int64(len(s.forest.com))
	return 4+s.trees.itemCount()+s.linePuts+s.saved.itemCount()+3*((blocks+17)/20) > blocks
}

func (s *plainScript) answer(c impl.Command) impl.Answer {
	s.linePuts = 0
	switch c.Op {
	case impl.CmdClone, impl.CmdDrop:
		return s.cloneOrDrop(c)
	case impl.CmdSync:
		return s.sync()
	case impl.CmdCrash:
		return s.crash(c)
	}
	return s.answerInTree(c)
}

func (s *plainScript) cloneOrDrop(c impl.Command) impl.Answer {
	op := clone(c.Tree)
	if c.Op == impl.CmdDrop {
		op = drop(c.Tree)
	}
	made := s.forest.do(op)
	switch {
	case made.Code != impl.OK:
	case c.Op == impl.CmdDrop:
		delete(s.trees, c.Tree)
	default:
		s.trees[made.Value] = maps.Clone(s.trees[c.Tree])
	}
	return impl.Answer{Code: made.Code, Value: made.Value}
}

// carriedOut is the disk after steps and a crash behind them.
func carriedOut(disk []byte, steps []impl.Step, survives func(i int) bool) []byte {
	p := plainOf(impl.Device{Blocks: blocksIn(disk), Disk: disk})
	for _, step := range steps {
		if step.Kind == impl.StepFlush {
			p.settle(func(int) bool { return true })
		} else {
			p.write(step.Block, step.Data)
		}
	}
	p.settle(survives)
	return slices.Concat(p.disk...)
}

func (s *plainScript) sync() impl.Answer {
	steps := s.forest.commitSteps()
	if made := s.forest.do(commit()); made.Code != impl.OK {
		return impl.Answer{Code: made.Code}
	}
	s.disk = carriedOut(s.disk, steps, nil)
	s.saved = s.trees.copied()
	return impl.Answer{Value: s.forest.generation}
}

// crash knows of an own volume without a look at the disk which generation is found: the superblock is the last write, alone in the cache behind a flush.
func (s *plainScript) crash(c impl.Command) impl.Answer {
	survives := func(i int) bool { return i < len(c.Data) && c.Data[i] == '1' }
	steps := s.forest.commitSteps()
	count := min(int(c.Off), len(steps))
	s.disk = carriedOut(s.disk, steps[:count], survives)
	found := s.forest.generation
	if len(steps) > 0 && (count == len(steps) || count == len(steps)-1 && survives(0)) {
		found++
		s.landed++
		s.saved = s.trees.copied()
	} else {
		s.begun++
		s.trees = s.saved.copied()
	}
	s.forest = plainMount(s.disk).forest()
	return impl.Answer{Value: found}
}

// answerInTree is for the lines that look at one tree, or change it.
func (s *plainScript) answerInTree(c impl.Command) impl.Answer {
	e := s.effect(c)
	for _, op := range e.ops {
		if op.Kind == impl.OpPut {
			s.linePuts++
		}
	}
	if len(e.ops) == 0 {
		return e.answer
	}
	dips := 0
	code := s.forest.whole(func() bool {
		return !slices.ContainsFunc(e.ops, func(op impl.TreeOp) bool {
			made := s.forest.makes(s.forest.treePlace(c.Tree), op)
			if s.forest.free() < s.forest.reserve() {
				dips = 1
			}
			return !made
		})
	})
	if code != impl.OK {
		return impl.Answer{Code: code}
	}
	s.dips += dips
	e.change()
	return e.answer
}

func (p *plainForest) makes(at int, op impl.TreeOp) bool {
	if op.Kind == impl.OpPut {
		return p.put(at, op.Key, op.Val)
	}
	return p.remove(at, op.Key)
}

func (s *plainScript) effect(c impl.Command) effect {
	if c.Op == impl.CmdSpace {
		return effect{answer: s.space()}
	}
	t := s.trees[c.Tree]
	if t == nil {
		return refusal(impl.ErrNoTree)
	}
	if code := plainPath(c.Path); code != impl.OK {
		return refusal(code)
	}
	if c.Op == impl.CmdRename {
		return t.rename(c)
	}
	if code := t.finding(c.Path); code != impl.OK {
		return refusal(code)
	}
	switch c.Op {
	case impl.CmdCreate, impl.CmdMkdir:
		return t.add(c)
	case impl.CmdWrite, impl.CmdFill:
		return t.write(c)
	case impl.CmdRead:
		return t.read(c)
	case impl.CmdList:
		return t.list(c)
	}
	return t.unlink(c)
}

func (s *plainScript) space() impl.Answer {
	free := s.forest.free()
	live := s.forest.live()
	words := []string{}
	for _, n := range []int64{live, int64(len(s.forest.com)) - 2 - live - free, s.forest.generation} {
		words = append(words, strconv.FormatInt(n, 10))
	}
	return impl.Answer{Value: free, Data: strings.Join(words, " ")}
}

func (t plainTree) add(c impl.Command) effect {
	if t.at(c.Path) != nil {
		return refusal(impl.ErrExist)
	}
	f := &plainFile{ino: t.least(), dir: c.Op == impl.CmdMkdir, stored: map[int64]int{}}
	dir, name := cutPath(c.Path)
	return effect{
		ops:    []impl.TreeOp{put(0, key(f.ino, 1, ""), whatItIs(f)), put(0, key(t.at(dir).ino, 2, name), two(f.ino))},
		change: func() { t[c.Path] = f },
	}
}

// fileCode is what stands ahead of a file's own errors.
func (t plainTree) fileCode(path string) int64 {
	f := t.at(path)
	if f == nil {
		return impl.ErrNotFound
	}
	if f.dir {
		return impl.ErrIsDir
	}
	return impl.OK
}

func (t plainTree) write(c impl.Command) effect {
	if code := t.fileCode(c.Path); code != impl.OK {
		return refusal(code)
	}
	if c.Off+c.Len > 1000 {
		return refusal(impl.ErrLimit)
	}
	old := t[c.Path]
	f := &plainFile{ino: old.ino, bytes: slices.Clone(old.bytes), stored: maps.Clone(old.stored)}
	e := effect{answer: impl.Answer{Value: c.Len}, change: func() { t[c.Path] = f }}
	if c.Len == 0 {
		return e
	}
	text := strings.Repeat(c.Data, 1000)
	for at := c.Off; at < c.Off+c.Len; at++ {
		f.bytes = append(f.bytes, make([]byte, max(0, at+1-int64(len(f.bytes))))...)
		f.bytes[at] = text[at-c.Off]
		f.stored[at/10] = max(f.stored[at/10], int(at%10)+1)
	}
	for x := range int64(100) {
		if 10*x+9 >= c.Off && 10*x < c.Off+c.Len {
			e.ops = append(e.ops, put(0, key(f.ino, 3, string([]byte{byte(x)})), string(f.bytes[10*x:][:f.stored[x]])))
		}
	}
	if len(f.bytes) > len(old.bytes) {
		e.ops = append(e.ops, put(0, key(f.ino, 1, ""), whatItIs(f)))
	}
	return e
}

func (t plainTree) read(c impl.Command) effect {
	if code := t.fileCode(c.Path); code != impl.OK {
		return refusal(code)
	}
	var out []byte
	for at, b := range t[c.Path].bytes {
		if int64(at) >= c.Off && int64(at) < c.Off+c.Len {
			out = append(out, b)
		}
	}
	return effect{answer: impl.Answer{Value: int64(len(t[c.Path].bytes)), Data: string(out)}}
}

func (t plainTree) list(c impl.Command) effect {
	f := t.at(c.Path)
	if f == nil {
		return refusal(impl.ErrNotFound)
	}
	if !f.dir {
		return refusal(impl.ErrNotDir)
	}
	names := t.namesIn(c.Path)
	for i, name := range names {
		if t[strings.TrimSuffix(c.Path, "/")+"/"+name].dir {
			names[i] += "/"
		}
	}
	return effect{answer: impl.Answer{Value: int64(len(names)), Data: strings.Join(names, " ")}}
}

func (t plainTree) unlink(c impl.Command) effect {
	f := t.at(c.Path)
	switch {
	case c.Path == "/":
		return refusal(impl.ErrRoot)
	case f == nil:
		return refusal(impl.ErrNotFound)
	case f.dir && len(t.namesIn(c.Path)) > 0:
		return refusal(impl.ErrNotEmpty)
	}
	e := effect{change: func() { delete(t, c.Path) }}
	for _, x := range slices.Sorted(maps.Keys(f.stored)) {
		e.ops = append(e.ops, del(0, key(f.ino, 3, string([]byte{byte(x)}))))
	}
	dir, name := cutPath(c.Path)
	e.ops = append(e.ops, del(0, key(f.ino, 1, "")), del(0, key(t.at(dir).ino, 2, name)))
	return e
}

func (t plainTree) renameCode(c impl.Command) int64 {
	switch {
	case plainPath(c.Path2) != impl.OK:
		return plainPath(c.Path2)
	case c.Path == "/":
		return impl.ErrRoot
	case t.finding(c.Path) != impl.OK:
		return t.finding(c.Path)
	case t[c.Path] == nil:
		return impl.ErrNotFound
	case c.Path2 == "/":
		return impl.ErrExist
	case t.finding(c.Path2) != impl.OK:
		return t.finding(c.Path2)
	case t[c.Path2] != nil:
		return impl.ErrExist
	case t[c.Path].dir && strings.HasPrefix(c.Path2, c.Path+"/"):
		return impl.ErrInside
	}
	return impl.OK
}

func (t plainTree) rename(c impl.Command) effect {
	if code := t.renameCode(c); code != impl.OK {
		return refusal(code)
	}
	oldDir, oldName := cutPath(c.Path)
	newDir, newName := cutPath(c.Path2)
	return effect{
		ops: []impl.TreeOp{put(0, key(t.at(newDir).ino, 2, newName), two(t[c.Path].ino)), del(0, key(t.at(oldDir).ino, 2, oldName))},
		change: func() {
			for _, path := range slices.Collect(maps.Keys(t)) {
				if rest, below := strings.CutPrefix(path+"/", c.Path+"/"); below {
					f := t[path]
					delete(t, path)
					t[strings.TrimSuffix(c.Path2+"/"+rest, "/")] = f
				}
			}
		},
	}
}
