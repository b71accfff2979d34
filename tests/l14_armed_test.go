package tests

import (
	"fmt"
	"slices"
	"strings"
	"testing"

	"loop.example/s01525/impl"
)

// A new directory on a new disk, by hand. A sync: the superblock, a flush, six blocks of the transaction, a flush: 9 operations. A mount
// behind it: four homes, a flush, the superblock, a flush: 7. A checkpoint: the same 7.

// ones are so many K that keep a write.
func ones(n int) string {
	return strings.Repeat(" 1", n)
}

// The operation that is armed is not done, and all ahead of it are: in a sync.
func TestArmedInSync(t *testing.T) {
	g := serveGeometry()
	for n := 1; n <= 9; n++ {
		for _, k := range []string{"", " 0", " 1", " 1 1 1 1 1", " 1 1 1 1 1 0", " 0 1 1 1 1 1", " 1 1 1 0 1 1", ones(6), ones(600), " -1 2 3 999999999 -7 1"} {
			names := "names"
			// Only if all six blocks were written, and are kept, the transaction is whole.
			if n == 9 && (strings.HasPrefix(k, ones(6)) || strings.HasPrefix(k, " -1")) {
				names = "names a"
			}
			arm := fmt.Sprint("arm ", n, k)
			talk(t, arm, g, "mkdir /a | ok", arm+" | armed", "sync | crashed", "sync | down", "check | check", "mount | mounted", "list / | "+names, "mkdir /b | ok", "sync | ok", "checkpoint | ok", "crash | crashed", "mount | mounted", "list / | "+strings.TrimSpace(names+" b"))
		}
	}
	talk(t, "arm 10", g, "mkdir /a | ok", "arm 10 | armed", "sync | ok", "list / | names a", "sync | ok", "mkdir /b | ok", "sync | crashed", "mount | mounted", "list / | names a")
}

// The operation that is armed, in a checkpoint. What was synced is there in any case.
func TestArmedInCheckpoint(t *testing.T) {
	g := serveGeometry()
	for n := 1; n <= 7; n++ {
		for _, k := range []string{"", ones(1), " 0 0 1", ones(3), ones(4), " 0 1 0 1", ones(600)} {
			arm := fmt.Sprint("arm ", n, k)
			// The log has transaction 1 still, or, if the new superblock was kept, none, and 2 would be the next one.
			talk(t, arm, g, "mkdir /a | ok", "sync | ok", arm+" | armed", "checkpoint | crashed", "checkpoint | down", "mount | mounted", "log | log 3 1 0 0 0", "list / | names a", "check | check")
		}
	}
	talk(t, "arm 8", g, "mkdir /a | ok", "sync | ok", "arm 8 | armed", "checkpoint | ok", "log | log 2 7 0 0 0", "checkpoint | ok", "mkdir /b | ok", "checkpoint | crashed", "mount | mounted", "list / | names a")
	// A checkpoint that commits first: the commit's operations are the first ones. Behind those the directory is there.
	for n := 1; n <= 20; n++ {
		names := map[bool]string{true: "names a", false: "names"}[n > 9]
		pairs := []string{"mkdir /a | ok", fmt.Sprint("arm ", n) + " | armed", "checkpoint | crashed", "mount | mounted", "list / | " + names}
		if n > 16 {
			pairs = []string{"mkdir /a | ok", fmt.Sprint("arm ", n) + " | armed", "checkpoint | ok", "list / | names a", "log | log 2 7 0 0 0"}
		}
		talk(t, fmt.Sprint("both, arm ", n), g, pairs...)
	}
}

// The operation that is armed, in the recovery of a mount: the disk crashes in it, and the next mount goes through.
func TestArmedInRecovery(t *testing.T) {
	g := serveGeometry()
	for n := 1; n <= 7; n++ {
		for _, k := range []string{"", ones(1), " 0 1", ones(3), ones(4), " 1 0 1", ones(600)} {
			arm := fmt.Sprint("arm ", n, k)
			log := "log | log 3 1 0 0 0"
			talk(t, arm, g, "mkdir /a | ok", "sync | ok", "crash | crashed", arm+" | armed", "mount | crashed", "list / | down", "mount | mounted", log, "list / | names a", "mkdir /b | ok", "sync | ok", "mount | up")
			// Armed while it was up: what was armed stays armed in a crash that is told.
			talk(t, arm+", up", g, "mkdir /a | ok", "sync | ok", arm+" | armed", "crash 1 1 | crashed", "crash | crashed", "mount | crashed", "mount | mounted", log, "list / | names a")
			// Again and again, at each operation.
			again := []string{"mkdir /a | ok", "sync | ok", "crash | crashed"}
			for m := 1; m <= 7; m++ {
				if n == 7 && strings.HasPrefix(k, ones(1)) && m > 1 {
					break
				}
				again = append(again, arm+" | armed", "mount | crashed")
			}
			talk(t, arm+", again", g, append(again, "mount | mounted", log, "list / | names a")...)
		}
	}
	talk(t, "arm 8", g, "mkdir /a | ok", "sync | ok", "crash | crashed", "arm 8 | armed", "mount | mounted", "list / | names a", "mkdir /b | ok", "list / | names a b", "sync | crashed", "mount | mounted", "list / | names a")
}

// What is counted is counted over calls, crashes that are told, and mounts; what does no operation does not count.
func TestArmedOverLines(t *testing.T) {
	g := serveGeometry()
	quiet := []string{"stat / | stat 2 1 16 1", "list / | names a", "space | space 6 11", "log | log 2 7 6 0 4", "tree | dir / 1 1 16 1\ndir /a 2 1 0 0\nend", "check | check", "mount | up", "x | bad", "rmdir /b | error 32", "sync | ok", "create /c | ok", "unlink /c | ok", "write /c 0 x | error 32"}
	pairs := append([]string{"mkdir /a | ok", "sync | ok", "arm 1 | armed"}, quiet...)
	talk(t, "no operation", g, append(pairs, "mkdir /b | ok", "list / | names a b", "sync | crashed", "mount | mounted", "list / | names a")...)
	for n := 10; n <= 16; n++ {
		arm := fmt.Sprint("arm ", n, " | armed")
		talk(t, fmt.Sprint("over a crash and a mount, arm ", n), g, "mkdir /a | ok", arm, "sync | ok", "crash | crashed", "x | bad", "check | check", "mount | crashed", "mount | mounted", "list / | names a", "mkdir /b | ok", "checkpoint | ok")
	}
	talk(t, "over two mounts", g, "mkdir /a | ok", "arm 17 | armed", "sync | ok", "crash | crashed", "mount | mounted", "crash | crashed", "mount | mounted", "list / | names a", "rmdir /a | ok", "sync | crashed", "mount | mounted", "list / | names a")
	// The commit that has ended exactly ahead of the operation that is armed; that is the first one of the next mount.
	talk(t, "at the end", g, "mkdir /a | ok", "arm 10 1 | armed", "sync | ok", "sync | ok", "crash | crashed", "mount | crashed", "mount | mounted", "list / | names a")
	// The first operation of a mount that has none to do is that of a later call.
	talk(t, "nothing to recover", g, "crash | crashed", "arm 1 | armed", "mount | mounted", "mkdir /a | ok", "sync | crashed", "mount | mounted", "list / | names")
}

// What was armed ahead is not any more: neither its number nor its K.
func TestArmedAnew(t *testing.T) {
	g := serveGeometry()
	talk(t, "later", g, "mkdir /a | ok", "arm 1 1 1 | armed", "arm 10 | armed", "sync | ok", "list / | names a")
	talk(t, "sooner", g, "mkdir /a | ok", "arm 100 | armed", "arm 2 | armed", "sync | crashed", "mount | mounted", "list / | names")
	talk(t, "other K", g, "mkdir /a | ok", "arm 9"+ones(6)+" | armed", "arm 9 0 | armed", "sync | crashed", "mount | mounted", "list / | names")
	talk(t, "K now", g, "mkdir /a | ok", "arm 9 | armed", "arm 9"+ones(6)+" | armed", "sync | crashed", "mount | mounted", "list / | names a")
	talk(t, "counted from the last one on", g, "mkdir /a | ok", "arm 12 | armed", "sync | ok", "arm 9"+ones(6)+" | armed", "mkdir /b | ok", "sync | ok", "rmdir /b | ok", "sync | crashed", "mount | mounted", "list / | names a b")
	talk(t, "down", g, "mkdir /a | ok", "sync | ok", "crash | crashed", "arm 1 | armed", "arm 8 | armed", "arm 3 1 | armed", "mount | crashed", "mount | mounted")
	talk(t, "up, then down", g, "mkdir /a | ok", "arm 10 | armed", "sync | ok", "crash | crashed", "arm 9"+ones(600)+" | armed", "mount | mounted", "mkdir /b | ok", "sync | crashed", "mount | mounted", "list / | names a")
	// Behind the crash nothing is armed, and its K are gone as well.
	talk(t, "nothing armed", g, "mkdir /a | ok", "arm 9"+ones(6)+" | armed", "sync | crashed", "mount | mounted", "list / | names a", "mkdir /b | ok", "sync | ok", "checkpoint | ok", "mkdir /c | ok", "sync | ok", "mkdir /d | ok", "crash 1 1 1 1 1 1 | crashed", "mount | mounted", "list / | names a b c", "crash | crashed", "mount | mounted", "mkdir /d | ok", "arm 9 | armed", "sync | crashed", "mount | mounted", "list / | names a b c")
	// The K of a crash that is told are its own.
	talk(t, "told ahead", g, "mkdir /a | ok", "arm 9"+ones(6)+" | armed", "crash 0 0 0 | crashed", "mount | mounted", "mkdir /b | ok", "sync | crashed", "mount | mounted", "list / | names b")
}

// armedRows are scripts with a line "arm" that is armed with every number, and geometries for them.
func armedRows() map[string]struct {
	g     impl.Geometry
	lines []string
} {
	small, least := impl.Geometry{Blocks: 60, Log: 24, Inodes: 12}, impl.Geometry{Blocks: 60, Log: 20, Inodes: 8}
	row := func(g impl.Geometry, lines ...string) struct {
		g     impl.Geometry
		lines []string
	} {
		return struct {
			g     impl.Geometry
			lines []string
		}{g, lines}
	}
	var nameless []string
	for i := range 4 {
		nameless = append(nameless, fmt.Sprint("create /", i), fmt.Sprint("fill /", i, " 0 60 a"), fmt.Sprint("open /", i), fmt.Sprint("unlink /", i))
	}
	return map[string]struct {
		g     impl.Geometry
		lines []string
	}{
		"calls, syncs and checkpoints": row(serveGeometry(), "mkdir /a", "arm", "create /a/f", "sync", "write /a/f 0 abc", "sync", "rename /a/f /g", "checkpoint", "unlink /g", "sync", "checkpoint"),
		"under pressure":               row(small, "arm", "create /a", "create /b", "create /c", "create /d", "fill /a 0 64 a", "fill /b 0 64 b", "unlink /a", "unlink /b", "create /e", "create /f", "link /e /g", "symlink /h /e"),
		"the log full":                 row(least, "arm", "create /a", "sync", "fill /a 0 60 a", "sync", "fill /a 0 60 b", "sync", "fill /a 0 60 c", "sync", "fill /a 0 60 d", "sync", "fill /a 0 60 e", "sync", "trunc /a 0", "sync"),
		"in a mount":                   row(serveGeometry(), "mkdir /a", "create /a/f", "fill /a/f 0 200 k", "sync", "unlink /a/f", "sync", "crash", "arm", "mount"),
		"over a mount":                 row(serveGeometry(), "mkdir /a", "sync", "arm", "create /a/f", "sync", "crash 1", "mount", "fill /a/f 0 9 a", "checkpoint", "unlink /a/f"),
		"files without a name":         row(small, append(nameless, "sync", "crash", "arm", "mount", "space", "sync")...),
		"files without a name, up":     row(small, append([]string{"arm"}, append(nameless, "sync", "crash", "mount", "space", "sync")...)...),
		"close":                        row(small, append(nameless, "sync", "arm", "close 1", "close 2", "close 3", "close 4", "checkpoint")...),
	}
}

// armedCrashes arms each operation of a row in turn, and beyond: the crash comes there, with no, some and all of what is pending kept, and
// behind it the machine goes on. It tells how many operations there are, and the lines in which a crash came.
func armedCrashes(t *testing.T, name string, g impl.Geometry, row []string) (ops int, crashedIn map[string]int) {
	t.Helper()
	crashedIn = map[string]int{}
	at := slices.Index(row, "arm")
	for n := 1; ops == 0 || n < ops+3; n++ {
		for _, k := range []string{"", ones(600), " 1 0 1 1 0 1 1 1 1"} {
			lines := slices.Clone(row)
			lines[at] = fmt.Sprint("arm ", n, k)
			lines = append(lines, "check", "mount", "tree", "log", "space", "create /z", "sync", "crash", "mount", "log")
			reply := checkServe(t, fmt.Sprint(name, ", ", lines[at]), g, lines...)
			crash := at
			for crash < len(row) && (reply[crash] != "crashed" || strings.HasPrefix(lines[crash], "crash")) {
				crash++
			}
			if crash < len(row) {
				crashedIn[lines[crash]]++
			} else if ops == 0 {
				ops = n
			}
		}
	}
	return ops, crashedIn
}

func TestArmedEverywhere(t *testing.T) {
	in := map[string][]string{"calls, syncs and checkpoints": {"sync", "checkpoint"}, "under pressure": {"create /c", "symlink /h /e"}, "the log full": {"sync"}, "in a mount": {"mount"}, "over a mount": {"sync", "mount", "checkpoint"}, "files without a name": {"mount", "sync"}, "close": {"close 3", "checkpoint"}}
	for name, row := range armedRows() {
		t.Run(name, func(t *testing.T) {
			t.Parallel()
			ops, crashedIn := armedCrashes(t, name, row.g, row.lines)
			if ops < 8 || len(crashedIn) == 0 {
				t.Errorf("%d operations, crashes in %v", ops, crashedIn)
			}
			for _, line := range in[name] {
				if crashedIn[line] == 0 {
					t.Errorf("no crash in %s, but in %v", line, crashedIn)
				}
			}
		})
	}
}
