package tests

import (
	"slices"
	"strings"
	"testing"

	"loop.example/s01595/impl"
)

func wantNames(t *testing.T, path string, want ...string) {
	t.Helper()
	names, code := impl.SplitPath(path)
	if code != impl.OK || !slices.Equal(names, want) {
		t.Errorf("SplitPath of %q: code %d, names %q, want %q", path, code, names, want)
	}
}

func wantNoPath(t *testing.T, path string, want int64) {
	t.Helper()
	names, code := impl.SplitPath(path)
	if code != want || len(names) != 0 {
		t.Errorf("SplitPath of %q: code %d, names %q, want code %d", path, code, names, want)
	}
}

func deepPath(number int, name string) string {
	return strings.Repeat("/"+name, number)
}

func TestPathsThatAreTaken(t *testing.T) {
	wantNames(t, "/")
	wantNames(t, "/a", "a")
	wantNames(t, "/a/b/a", "a", "b", "a")
	wantNames(t, "/.", ".")
	wantNames(t, "/../.", "..", ".")
	wantNames(t, "/...", "...")
	wantNames(t, "/!/~/!~", "!", "~", "!~")
	wantNames(t, "/12345678", "12345678")
	wantNames(t, `/\/"`, `\`, `"`)
	wantNames(t, deepPath(16, "a"), slices.Repeat([]string{"a"}, 16)...)
	wantNames(t, deepPath(16, "abcdefgh"), slices.Repeat([]string{"abcdefgh"}, 16)...)
}

func TestPathsThatAreRefused(t *testing.T) {
	for _, path := range []string{
		"", "a", "a/b", " /a", "\\a", "//", "///", "/a/", "//a", "/a//b", "/a/b/", "/a//",
		"/ ", "/a b", "/\x7f", "/a\x7f", "/\x1f", "/\x00", "/a\n", "/\x80", "/\xff", "/é", "/a/b/\u2028", "/\xc3\x28", "/a\t/b",
	} {
		wantNoPath(t, path, impl.ErrPath)
	}
	for _, path := range []string{
		"/123456789", "/a/123456789", "/123456789/a", deepPath(17, "a"), deepPath(17, "abcdefgh"),
		strings.Repeat("/", 201), strings.Repeat("x", 201), "/" + strings.Repeat("a", 200), deepPath(100, "a") + "/", strings.Repeat("\x00", 300),
	} {
		wantNoPath(t, path, impl.ErrLimit)
	}
}

func TestEveryByteInNames(t *testing.T) {
	for b := range 256 {
		name := "a" + string([]byte{byte(b)}) + "z"
		switch {
		case b == '/':
			wantNames(t, "/"+name, "a", "z")
		case b < 33 || b > 126:
			wantNoPath(t, "/"+name, impl.ErrPath)
		default:
			wantNames(t, "/"+name, name)
		}
	}
}

// The first fault from the left tells; within a name it is the byte, then the length; the number of names comes last.
func TestOrderOfPathErrors(t *testing.T) {
	for path, want := range map[string]int64{
		"/123456789\x01":                        impl.ErrPath,
		"/\x01/123456789":                       impl.ErrPath,
		"/123456789/\x01":                       impl.ErrLimit,
		"/123456789/":                           impl.ErrLimit,
		"//123456789":                           impl.ErrPath,
		"123456789":                             impl.ErrPath,
		"/123456789//":                          impl.ErrLimit,
		deepPath(17, "a") + "/":                 impl.ErrPath,
		deepPath(17, "a") + "/\x7f":             impl.ErrPath,
		deepPath(16, "a") + "/ ":                impl.ErrPath,
		deepPath(99, "a") + "/é":                impl.ErrLimit,
		deepPath(98, "a") + "/é":                impl.ErrPath,
		strings.Repeat("/", 200):                impl.ErrPath,
		"\x01" + strings.Repeat("x", 200):       impl.ErrLimit,
		"\x01" + strings.Repeat("x", 199):       impl.ErrPath,
		"/" + strings.Repeat("a", 198) + "\x01": impl.ErrPath,
		"/" + strings.Repeat("a", 199) + "\x01": impl.ErrLimit,
	} {
		wantNoPath(t, path, want)
	}
}

func TestPathsAgainstPlainLook(t *testing.T) {
	parts := []string{"/", "/", "a", "bc", "12345678", "9", " ", "\x7f", "é", ".", "~", "!"}
	var try func(path string, left int)
	try = func(path string, left int) {
		want := plainPath(path)
		names, code := impl.SplitPath(path)
		if code != want || code == impl.OK && path != "/" && "/"+strings.Join(names, "/") != path || code != impl.OK && len(names) != 0 {
			t.Errorf("SplitPath of %q: code %d, names %q, want code %d", path, code, names, want)
		}
		for _, part := range parts[:len(parts)*min(left, 1)] {
			try(path+part, left-1)
		}
	}
	try("", 4)
}

func TestNamesAreNew(t *testing.T) {
	names, _ := impl.SplitPath("/a/b")
	names[0] = "x"
	_ = append(names[:1], "y")
	wantNames(t, "/a/b", "a", "b")
}

// goodLines has each of the thirteen lines at its least and at its most.
func goodLines() map[string]impl.Command {
	data := strings.Repeat("~!", 743)
	mask := strings.Repeat("10", 100)
	return map[string]impl.Command{
		"create 0 /a":                       {Op: impl.CmdCreate, Path: "/a"},
		"create 999999 ~":                   {Op: impl.CmdCreate, Tree: 999999, Path: "~"},
		"mkdir 7 /d/e":                      {Op: impl.CmdMkdir, Tree: 7, Path: "/d/e"},
		"write 1 /a 0 x":                    {Op: impl.CmdWrite, Tree: 1, Path: "/a", Len: 1, Data: "x"},
		"write 10 /a 999999 0":              {Op: impl.CmdWrite, Tree: 10, Path: "/a", Off: 999999, Len: 1, Data: "0"},
		"write 0 /a 10 " + data:             {Op: impl.CmdWrite, Path: "/a", Off: 10, Len: 1486, Data: data},
		"fill 2 p 3 4 c":                    {Op: impl.CmdFill, Tree: 2, Path: "p", Off: 3, Len: 4, Data: "c"},
		"fill 0 /a 999999 999999 /":         {Op: impl.CmdFill, Path: "/a", Off: 999999, Len: 999999, Data: "/"},
		"fill 0 /a 0 0 5":                   {Op: impl.CmdFill, Path: "/a", Data: "5"},
		"read 3 /x 12 345":                  {Op: impl.CmdRead, Tree: 3, Path: "/x", Off: 12, Len: 345},
		"read 0 / 0 0":                      {Op: impl.CmdRead, Path: "/"},
		"list 0 /":                          {Op: impl.CmdList, Path: "/"},
		"list 65535 list":                   {Op: impl.CmdList, Tree: 65535, Path: "list"},
		"unlink 1 /a":                       {Op: impl.CmdUnlink, Tree: 1, Path: "/a"},
		"rename 1 /a /b":                    {Op: impl.CmdRename, Tree: 1, Path: "/a", Path2: "/b"},
		"rename 100000 0 0":                 {Op: impl.CmdRename, Tree: 100000, Path: "0", Path2: "0"},
		"clone 0":                           {Op: impl.CmdClone},
		"clone 65534":                       {Op: impl.CmdClone, Tree: 65534},
		"drop 12":                           {Op: impl.CmdDrop, Tree: 12},
		"sync":                              {Op: impl.CmdSync},
		"space":                             {Op: impl.CmdSpace},
		"crash 0 -":                         {Op: impl.CmdCrash},
		"crash 999999 0":                    {Op: impl.CmdCrash, Off: 999999, Len: 1, Data: "0"},
		"crash 5 1":                         {Op: impl.CmdCrash, Off: 5, Len: 1, Data: "1"},
		"crash 1 " + mask:                   {Op: impl.CmdCrash, Off: 1, Len: 200, Data: mask},
		"create 0 " + longPath():            {Op: impl.CmdCreate, Path: longPath()},
		"create 0 //":                       {Op: impl.CmdCreate, Path: "//"},
		"rename 0 a/ -":                     {Op: impl.CmdRename, Path: "a/", Path2: "-"},
		"write 0 /a 1 " + data + "x":        {Op: impl.CmdWrite, Path: "/a", Off: 1, Len: 1487, Data: data + "x"},
		"fill 123456 /a 1 10 -":             {Op: impl.CmdFill, Tree: 123456, Path: "/a", Off: 1, Len: 10, Data: "-"},
		"write 0 /a 5 -":                    {Op: impl.CmdWrite, Path: "/a", Off: 5, Len: 1, Data: "-"},
		"read 0 " + longPath() + "x 10 100": {Op: impl.CmdRead, Path: longPath() + "x", Off: 10, Len: 100},
	}
}

// longPath is a word that SplitPath refuses: paths are not looked at in a line.
func longPath() string {
	return strings.Repeat("/abcdefghij", 30)
}

func wantNoLine(t *testing.T, line string, want int64) {
	t.Helper()
	cmd, code := impl.ParseLine(line)
	if code != want || cmd != (impl.Command{}) {
		t.Errorf("ParseLine of %q: code %d, %+v, want code %d", line, code, cmd, want)
	}
}

func TestLinesThatAreTaken(t *testing.T) {
	for line, want := range goodLines() {
		cmd, code := impl.ParseLine(line)
		if code != impl.OK || cmd != want {
			t.Errorf("ParseLine of %q: code %d, %+v, want %+v", line, code, cmd, want)
		}
	}
}

func TestWordsTooFewAndTooMany(t *testing.T) {
	for line := range goodLines() {
		if last := strings.LastIndex(line, " "); last >= 0 {
			wantNoLine(t, line[:last], impl.ErrSyntax)
			wantNoLine(t, line[last+1:], impl.ErrSyntax)
		}
		if len(line) <= impl.MaxLine-2 {
			wantNoLine(t, line+" 0", impl.ErrSyntax)
			wantNoLine(t, "0 "+line, impl.ErrSyntax)
		}
	}
}

func TestEmptyWords(t *testing.T) {
	wantNoLine(t, "", impl.ErrSyntax)
	wantNoLine(t, " ", impl.ErrSyntax)
	wantNoLine(t, "  ", impl.ErrSyntax)
	for line := range goodLines() {
		if len(line) == impl.MaxLine {
			continue
		}
		wantNoLine(t, " "+line, impl.ErrSyntax)
		wantNoLine(t, line+" ", impl.ErrSyntax)
		for at := range line {
			if line[at] == ' ' {
				wantNoLine(t, line[:at]+" "+line[at:], impl.ErrSyntax)
			}
		}
	}
	// The empty word stands where a word could be: the number of words is right.
	for _, line := range []string{"create  /a", "create 0 ", "rename 0  /b", "write 0 /a 0 ", "clone ", "crash  -", "crash 0 ", "fill 0 /a 0 1 "} {
		wantNoLine(t, line, impl.ErrSyntax)
	}
}

func TestNumbersInLines(t *testing.T) {
	for _, form := range []string{"create # /a", "mkdir # /a", "write # /a 0 x", "write 0 /a # x", "fill # /a 0 0 c", "fill 0 /a # 0 c", "fill 0 /a 0 # c", "read # /a 0 0", "read 0 /a # 0", "read 0 /a 0 #", "list # /", "unlink # /a", "rename # /a /b", "clone #", "drop #", "crash # -"} {
		for _, number := range []string{"0", "1", "9", "10", "100", "999999", "100000", "65536"} {
			if _, code := impl.ParseLine(strings.Replace(form, "#", number, 1)); code != impl.OK {
				t.Errorf("ParseLine of %q with %q: code %d", form, number, code)
			}
		}
		for _, number := range []string{"00", "01", "007", "000000", "012345", "1000000", "1234567", "0000001", "99999999999999999999", "-1", "+1", "-0", "+0", "1.", "1e3", "0x1", "1_0", "a", "1a", "a1", "-", "/", ":", "1:", "/1"} {
			wantNoLine(t, strings.Replace(form, "#", number, 1), impl.ErrSyntax)
		}
	}
}

func TestBytesOfFills(t *testing.T) {
	for b := byte(33); b < 127; b++ {
		cmd, code := impl.ParseLine("fill 0 /a 1 2 " + string([]byte{b}))
		if code != impl.OK || cmd != (impl.Command{Op: impl.CmdFill, Path: "/a", Off: 1, Len: 2, Data: string([]byte{b})}) {
			t.Errorf("a fill with byte %d: code %d, %+v", b, code, cmd)
		}
	}
	for _, line := range []string{"fill 0 /a 1 2", "fill 0 /a 1 2 ", "fill 0 /a 1 2 ab", "fill 0 /a 1 2 00", "fill 0 /a 1 2  "} {
		wantNoLine(t, line, impl.ErrSyntax)
	}
}

func TestMasks(t *testing.T) {
	for _, length := range []int{1, 2, 7, 8, 9, 199, 200} {
		mask := strings.Repeat("01", 100)[:length]
		cmd, code := impl.ParseLine("crash 3 " + mask)
		if code != impl.OK || cmd != (impl.Command{Op: impl.CmdCrash, Off: 3, Len: int64(length), Data: mask}) {
			t.Errorf("a mask of %d bytes: code %d, %+v", length, code, cmd)
		}
	}
	for _, mask := range []string{strings.Repeat("1", 201), strings.Repeat("0", 1000), "2", "/", "012", "210", "0x1", "--", "-1", "1-", "0-0", "a", "é", "", "0 1"} {
		wantNoLine(t, "crash 3 "+mask, impl.ErrSyntax)
	}
}

func TestEveryByteInLines(t *testing.T) {
	for b := range 256 {
		in := string([]byte{byte(b)})
		good := b > 32 && b < 127
		for _, line := range []string{"create 0 /" + in, "write 0 /a 0 x" + in + "y", "rename 0 " + in + " /b", "rename 0 /a " + in + in} {
			if !good {
				wantNoLine(t, line, impl.ErrSyntax)
			} else if _, code := impl.ParseLine(line); code != impl.OK {
				t.Errorf("ParseLine of %q: code %d", line, code)
			}
		}
		wantNoLine(t, "sync"+in, impl.ErrSyntax)
		wantNoLine(t, in+"space", impl.ErrSyntax)
		wantNoLine(t, in, impl.ErrSyntax)
	}
}

func TestLengthsOfLines(t *testing.T) {
	if _, code := impl.ParseLine("write 0 /a 0 " + strings.Repeat("x", impl.MaxLine-13)); code != impl.OK {
		t.Errorf("a line of MaxLine bytes: code %d", code)
	}
	wantNoLine(t, "write 0 /a 0 "+strings.Repeat("x", impl.MaxLine-12), impl.ErrLimit)
	wantNoLine(t, strings.Repeat(" ", impl.MaxLine), impl.ErrSyntax)
	wantNoLine(t, strings.Repeat("x", impl.MaxLine), impl.ErrSyntax)
	for _, in := range []string{" ", "x", "\x00", "\xff", "é"} {
		wantNoLine(t, strings.Repeat(in, impl.MaxLine+1), impl.ErrLimit)
	}
}

func TestUnknownWords(t *testing.T) {
	for _, word := range []string{"format", "Sync", "SYNC", "syn", "syncs", "0", "-", "create", "read"} {
		wantNoLine(t, word, impl.ErrSyntax)
	}
	for _, line := range []string{"creat 0 /a", "Create 0 /a", "creates 0 /a", "touch 0 /a", "mkfs 0 /a", "0 create /a", "/a 0 create", "rm 0 /a", "fills 0 /a 0 1 x"} {
		wantNoLine(t, line, impl.ErrSyntax)
	}
}
