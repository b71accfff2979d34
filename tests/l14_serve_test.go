package tests

import (
	"fmt"
	"math"
	"strings"
	"testing"

	"loop.example/s01525/impl"
)

func serveGeometry() impl.Geometry { return impl.Geometry{Blocks: 60, Log: 40, Inodes: 8} }

func TestScriptConstants(t *testing.T) {
	for i, c := range []struct{ got, want int64 }{
		{impl.MaxScript, 65536}, {impl.MaxLines, 400}, {impl.MaxReply, 1048576}, {impl.MaxFill, 3000},
		{impl.LineBad, 0}, {impl.LineCall, 1}, {impl.LineTree, 2}, {impl.LineCheck, 3}, {impl.LineArm, 4}, {impl.LineCrash, 5}, {impl.LineMount, 6},
	} {
		if c.got != c.want {
			t.Error("constant", i, "is", c.got)
		}
	}
}

// talk is a script as pairs of a line and its answer, each with a stroke between: "line | answer".
func talk(t *testing.T, name string, g impl.Geometry, pairs ...string) {
	t.Helper()
	var lines []string
	want := ""
	for _, pair := range pairs {
		line, answer, ok := strings.Cut(pair, " | ")
		if !ok {
			t.Fatalf("%s: %q has no answer", name, pair)
		}
		lines, want = append(lines, line), want+answer+"\n"
	}
	if got := string(impl.Serve(scriptOf(lines), g)); got != want {
		sameReplies(t, name+", by hand", lines, got, want)
	}
	checkServe(t, name, g, lines...)
}

// The script of the README.
func TestServeReadme(t *testing.T) {
	talk(t, "README", serveGeometry(), "mkdir /a | ok", "create /a/f | ok", "write /a/f 0 a%20b | ok", "sync | ok", "arm 4 1 0 1 | armed", "append /a/f c | ok", "checkpoint | crashed", "list /a | down", "check | check",
		"mount | mounted", "read /a/f 0 9 | data a%20b", "crash | crashed", "mount | mounted", "tree | dir / 1 1 16 1\ndir /a 2 1 16 1\nfile /a/f 3 1 3 1 a%20b\nend", "x | bad")
}

// Of what is no script, or no geometry, there is no answer at all.
func TestServeNothing(t *testing.T) {
	g := serveGeometry()
	for _, other := range append(edgeGeometries(), impl.Geometry{}, impl.Geometry{Blocks: -1, Log: -1, Inodes: -1}, impl.Geometry{Blocks: math.MaxInt64, Log: math.MaxInt64, Inodes: math.MaxInt64}, impl.Geometry{Blocks: math.MinInt64, Log: 40, Inodes: 8}) {
		want := "ok\ndir / 1 1 0 0\nend\nbad\n"
		if _, ok := plainPlaces(other); !ok {
			want = ""
		}
		if got := string(impl.Serve([]byte("sync\ntree\n\n"), other)); got != want {
			t.Errorf("%v: %q", other, got)
		}
	}
	if got := impl.Serve(nil, g); len(got) != 0 {
		t.Errorf("the empty text: %q", got)
	}
	if got := impl.Serve([]byte{}, impl.Geometry{}); len(got) != 0 {
		t.Errorf("the empty text of no geometry: %q", got)
	}
}

func TestServeLengths(t *testing.T) {
	g := serveGeometry()
	for _, n := range []int{65535, 65536, 65537, 65538, 200000} {
		want := map[bool]string{true: "bad\n"}[n <= 65536]
		if got := string(impl.Serve([]byte(strings.Repeat("x", n)), g)); got != want {
			t.Errorf("a line of %d bytes: %q", n, got)
		}
		// The line ends count.
		text := "sync\n" + strings.Repeat("x", n-6) + "\n"
		if got := string(impl.Serve([]byte(text), g)); got != map[bool]string{true: "ok\nbad\n"}[n <= 65536] {
			t.Errorf("two lines of %d bytes together: %q", len(text), got)
		}
	}
	// As long a line as a script has room for is taken: that path is none.
	if got := string(impl.Serve([]byte("create "+strings.Repeat("x", 65529)), g)); got != "error 30\n" {
		t.Errorf("a line of 65536 bytes: %q", got)
	}
	for _, n := range []int{1, 2, 399, 400, 401, 402, 1000} {
		for _, line := range []string{"x", "", "sync", "space"} {
			want := ""
			if n <= 400 {
				want = strings.Repeat(map[string]string{"x": "bad\n", "": "bad\n", "sync": "ok\n", "space": "space 7 12\n"}[line], n)
			}
			ended := strings.Repeat(line+"\n", n)
			if got := string(impl.Serve([]byte(ended), g)); got != want {
				t.Errorf("%d lines %q: %d bytes", n, line, len(got))
			}
			if got := string(impl.Serve([]byte(strings.TrimSuffix(ended, "\n")), g)); got != want && line != "" {
				t.Errorf("%d lines %q, the last one without an end: %d bytes", n, line, len(got))
			}
		}
	}
}

// Lines end with a byte 10 and nothing else; a last one needs none.
func TestServeLines(t *testing.T) {
	g := serveGeometry()
	for text, want := range map[string]string{
		"": "", "\n": "bad\n", "\n\n": "bad\nbad\n", "sync": "ok\n", "sync\n": "ok\n", "sync\n\n": "ok\nbad\n", "\nsync": "bad\nok\n", "\n\nsync\n": "bad\nbad\nok\n", "sync\nsync": "ok\nok\n", "sync\n\nsync\n": "ok\nbad\nok\n", "sync\r\n": "bad\n", "sync\r\nsync": "bad\nok\n",
		"sync sync": "bad\n", " ": "bad\n", "\x00": "bad\n", "sync\x00": "bad\n", "sync;sync": "bad\n", "x": "bad\n", "sync\n ": "ok\nbad\n", "sync\n\x00\nsync": "ok\nbad\nok\n", "\xff\n\xfe": "bad\nbad\n",
	} {
		if got := string(impl.Serve([]byte(text), g)); got != want || plainServe([]byte(text), g) != want {
			t.Errorf("%q: %q, not %q", text, got, want)
		}
	}
}

// everyLine are lines of every kind, with what is answered while the machine is up, of a new disk, each behind those ahead of it.
func everyLine() [][2]string {
	return [][2]string{
		{"create /a", "ok"}, {"mkdir /d", "ok"}, {"symlink /s /a", "ok"}, {"link /a /d/b", "ok"}, {"append /s x%20y", "ok"}, {"write /a 3 %00%ff", "ok"}, {"fill /d/b 5 4 y", "ok"}, {"read /d/b 0 99", "data x%20y%00%ffyzab"}, {"trunc /a 2", "ok"}, {"read /a 1 99", "data %20"},
		{"stat /d/b", "stat 1 2 2 1"}, {"lstat /s", "stat 3 1 2 1"}, {"list /", "names a d s"}, {"list /d", "names b"}, {"readlink /s", "data /a"}, {"open /s", "handle 1"}, {"open /a", "handle 2"}, {"pwrite 1 1 z", "ok"}, {"pread 2 0 9", "data xz"}, {"ftrunc 2 5", "ok"}, {"fstat 1", "stat 1 2 5 1"}, {"close 2", "ok"}, {"close 2", "error 48"},
		{"rename /d/b /d/c", "ok"}, {"unlink /d/c", "ok"}, {"rmdir /d", "ok"}, {"rmdir /d", "error 32"}, {"sync", "ok"}, {"checkpoint", "ok"}, {"space", "space 5 9"}, {"log", "log 4 26 0 0 0"},
		{"check", "check"}, {"mount", "up"}, {"tree", "dir / 1 1 32 1\nfile /a 2 1 5 1 xz%00%00%00\nlink /s 4 1 2 1 /a\nend"}, {"x", "bad"}, {"", "bad"}, {"arm 999999999 1 0", "armed"}, {"stat /a", "stat 1 1 5 1"}, {"create a", "error 30"}, {"create /abcdefghijklmn", "error 31"}, {"fill /a 2561 0 a", "error 41"}, {"fill /a -1 0 a", "error 40"},
		{"write /a 0 %", "ok"}, {"append / x", "error 34"}, {"readlink /a", "error 46"}, {"read /a 999999999 999999999", "data %"}, {"read /a -1 1", "error 40"},
	}
}

func TestServeEveryLineUp(t *testing.T) {
	var pairs []string
	for _, row := range everyLine() {
		pairs = append(pairs, row[0]+" | "+row[1])
	}
	talk(t, "every line up", serveGeometry(), pairs...)
}

// Down, nothing is done: behind the next mount all is as it was.
func TestServeEveryLineDown(t *testing.T) {
	pairs := []string{"create /f | ok", "write /f 0 abc | ok", "open /f | handle 1", "sync | ok", "create /g | ok", "crash | crashed"}
	for _, row := range everyLine() {
		answer := "down"
		switch fields := strings.Fields(row[0] + " -"); fields[0] {
		case "check":
			answer = "check"
		case "arm":
			answer = "armed"
		case "x", "-":
			answer = "bad"
		case "mount":
			continue
		}
		pairs = append(pairs, row[0]+" | "+answer)
	}
	pairs = append(pairs, "crash | crashed", "mount | mounted", "tree | dir / 1 1 16 1\nfile /f 2 1 3 1 abc\nend", "fstat 1 | error 48", "open /f | handle 1", "mount | up")
	talk(t, "every line down", serveGeometry(), pairs...)
}

// What is bad is bad, up or down, and changes nothing.
func TestServeBadLines(t *testing.T) {
	bad := []string{"sync 1", "Sync", " sync", "create", "write /a 0", "write /a 0 %41", "fill /a 0 3001 a", "arm 0", "arm", "crash x", "crash 1  1", "mount 1", "check 1", "tree /", "close x", "arm 1 -0", "\x00", "crash" + strings.Repeat(" 1", 601), "arm 1" + strings.Repeat(" 1", 601)}
	pairs := []string{"create /a | ok", "sync | ok"}
	for _, line := range bad {
		pairs = append(pairs, line+" | bad")
	}
	pairs = append(pairs, "list / | names a", "crash | crashed")
	for _, line := range bad {
		pairs = append(pairs, line+" | bad")
	}
	talk(t, "bad lines", serveGeometry(), append(pairs, "list / | down", "mount | mounted", "list / | names a", "sync | ok")...)
}

// What was not synced is lost in a crash that is told; what is pending between two lines is nothing, so its K keep nothing.
func TestServeCrash(t *testing.T) {
	g := serveGeometry()
	for _, k := range []string{"", " 0", " 1", " 1 1 1 1 1 1 1 1 1 1", " -1 999999999", " 0 0 0 1", strings.Repeat(" 1", 600)} {
		crash := "crash" + k + " | crashed"
		talk(t, "crash"+k, g, "mkdir /a | ok", crash, "list / | down", "mount | mounted", "list / | names", "mkdir /b | ok", "sync | ok", "mkdir /c | ok", crash, crash, "tree | down", crash, "check | check", "mount | mounted", "list / | names b", "log | log 3 1 0 0 0", crash, "mount | mounted", "mount | up", "list / | names b", "log | log 3 1 0 0 0", "checkpoint | ok", crash, "mount | mounted", "list / | names b")
	}
	talk(t, "a checkpoint ahead", g, "mkdir /b | ok", "checkpoint | ok", "log | log 2 7 0 0 0", "crash | crashed", "check | check", "mount | mounted", "log | log 3 1 0 0 0", "list / | names b")
	talk(t, "down at once", g, "crash 1 | crashed", "space | down", "mount | mounted", "space | space 7 12", "log | log 1 1 0 0 0")
}

// Behind a crash no handle is open, and what had no name is free.
func TestServeHandlesBehindMount(t *testing.T) {
	pairs := []string{"create /f | ok", "fill /f 0 70 a | ok", "open /f | handle 1", "open /f | handle 2", "unlink /f | ok", "sync | ok", "space | space 6 10", "pread 1 63 2 | data lm", "fstat 2 | stat 1 0 70 2", "crash | crashed", "pread 1 0 1 | down", "mount | mounted"}
	for handle := -1; handle < 10; handle++ {
		for _, line := range []string{"fstat %d", "close %d", "pread %d 0 1", "pwrite %d 0 x", "ftrunc %d 0"} {
			pairs = append(pairs, fmt.Sprintf(line, handle)+" | error 48")
		}
	}
	pairs = append(pairs, "space | space 7 12", "list / | names", "create /g | ok", "open /g | handle 1", "fstat 1 | stat 1 1 0 0")
	talk(t, "handles", serveGeometry(), pairs...)
	var many []string
	for handle := 1; handle <= 8; handle++ {
		many = append(many, fmt.Sprint("open /f | handle ", handle))
	}
	many = append(append([]string{"create /f | ok"}, many...), "open /f | error 49", "sync | ok", "crash | crashed", "mount | mounted")
	for handle := 1; handle <= 8; handle++ {
		many = append(many, fmt.Sprint("open /f | handle ", handle))
	}
	talk(t, "all handles", serveGeometry(), append(many, "open /f | error 49")...)
}

// Up, the disk is looked at without what is only in memory, or in the log: it is whole as it was. Down, it may be torn.
func TestServeCheck(t *testing.T) {
	g := serveGeometry()
	talk(t, "check up", g, "check | check", "create /f | ok", "check | check", "write /f 0 abc | ok", "open /f | handle 1", "unlink /f | ok", "check | check", "sync | ok", "check | check", "checkpoint | ok", "check | check", "crash | crashed", "check | check", "mount | mounted", "check | check", "checkpoint | ok", "check | check")
	// The operations of a checkpoint of one new directory: the two maps, the two records, the root's block; a flush, the superblock, a flush.
	for k, rules := range map[string]string{"2 1": " 14", "3 0 1": " 15", "3 1 1": " 14 15", "4 0 0 1": " 9 12 14 15", "5 0 0 0 1": "", "5 1 1 1": " 9 12", "5 1 1 0 1": " 14 15", "5 0 1 1 1": " 14", "2": "", "3 0 0": "", "1 1 1": ""} {
		check := "check | check" + rules
		talk(t, "arm "+k, g, "mkdir /a | ok", "sync | ok", "arm "+k+" | armed", "checkpoint | crashed", check, check, "list / | down", "mount | mounted", "check | check", "list / | names a")
	}
	talk(t, "no home kept", g, "mkdir /a | ok", "sync | ok", "arm 5 0 0 0 0 1 | armed", "checkpoint | crashed", "check | check", "mount | mounted", "list / | names a")
	talk(t, "all homes kept", g, "mkdir /a | ok", "sync | ok", "arm 5 1 1 1 1 | armed", "checkpoint | crashed", "check | check", "mount | mounted", "list / | names a", "log | log 3 1 0 0 0")
}
