package tests

import (
	"cmp"
	"fmt"
	"math/rand"
	"strings"
	"testing"

	"loop.example/s01525/impl"
)

// plainReply is what promise 20 says of a script without arm, crash and check: the answers of one PlainRun, and its nodes. Of the log
// PlainRun knows nothing.
func plainReply(g impl.Geometry, lines []string) string {
	var calls []impl.Call
	for _, line := range lines {
		if l := plainLine([]byte(line)); l.Kind == impl.LineCall {
			calls = append(calls, l.Call)
		}
	}
	answers := impl.PlainRun(g, calls).Answers
	out, done := "", 0
	for _, line := range lines {
		answer := "bad"
		switch l := plainLine([]byte(line)); l.Kind {
		case impl.LineCall:
			answer = plainFormat(l.Call, answers[done])
			done++
		case impl.LineTree:
			answer = plainTreeText(impl.PlainRun(g, calls[:done]).Nodes)
		case impl.LineMount:
			answer = "up"
		}
		if len(out)+len(answer)+1 > 1048576 {
			break
		}
		out += answer + "\n"
	}
	return out
}

// checkReply is promise 20 of a script.
func checkReply(t *testing.T, name string, g impl.Geometry, lines ...string) string {
	t.Helper()
	got, want := string(impl.Serve(scriptOf(lines), g)), plainReply(g, lines)
	if got != want {
		sameReplies(t, name, lines, got, want)
	}
	return got
}

func wideGeometry() impl.Geometry { return impl.Geometry{Blocks: 400, Log: 200, Inodes: 8} }

// upTo is a script whose reply has so many bytes less than there may be.
func upTo(left int) []string {
	lines := []string{"create /q", "write /q 0 " + strings.Repeat("%00", 2560), "create /p", "fill /p 0 2560 a"}
	rest := 1048576 - left - 4*len("ok\n")
	for each := len("data \n") + 3*2560; rest >= each+100; rest -= each {
		lines = append(lines, "read /q 0 2560")
	}
	for ; rest > 2566; rest -= 1006 {
		lines = append(lines, "read /p 0 1000")
	}
	return append(lines, fmt.Sprint("read /p 0 ", rest-6))
}

// Answers that together have exactly as many bytes as a reply may have, and one more: that one and all behind it are left out.
func TestServeFullReply(t *testing.T) {
	t.Parallel()
	g := wideGeometry()
	for row, c := range []struct {
		left   int
		behind []string
		more   string
	}{
		{0, nil, ""}, {1, nil, ""}, {0, []string{"sync"}, ""}, {0, []string{"x", "tree", "sync"}, ""},
		{3, []string{"sync"}, "ok\n"}, {3, []string{"sync", "sync"}, "ok\n"}, {3, []string{"mount"}, "up\n"}, {2, []string{"sync"}, ""}, {2, []string{"sync", "sync", "x"}, ""}, {1, []string{"sync"}, ""},
		{4, []string{"x"}, "bad\n"}, {3, []string{"x"}, ""}, {3, []string{"x", "sync"}, ""}, {4, []string{"sync", "sync"}, "ok\n"}, {5, []string{"sync", "sync", "sync"}, "ok\n"}, {6, []string{"sync", "sync", "sync"}, "ok\nok\n"}, {7, []string{"sync", "x", "sync"}, "ok\nbad\n"}, {6, []string{"sync", "x", "sync"}, "ok\n"},
		{10, []string{"list /", "sync"}, "names p q\n"}, {9, []string{"list /", "sync"}, ""}, {12, []string{"list /", "sync", "sync"}, "names p q\n"}, {13, []string{"list /", "sync", "sync"}, "names p q\nok\n"},
		{15, []string{"read /p 0 9", "sync"}, "data abcdefghi\n"}, {14, []string{"read /p 0 9", "sync", "sync"}, ""}, {15, []string{"read /q 0 3", "sync"}, "data %00%00%00\n"}, {14, []string{"read /q 0 3", "sync"}, ""},
	} {
		lines := append(upTo(c.left), c.behind...)
		got := checkReply(t, fmt.Sprint("row ", row), g, lines...)
		if want := 1048576 - c.left + len(c.more); len(got) != want || !strings.HasSuffix(got, "\n"+c.more) {
			t.Errorf("row %d: %d bytes, not %d", row, len(got), want)
		}
	}
}

// A tree is one answer: all of it, or nothing.
func TestServeFullReplyByTree(t *testing.T) {
	t.Parallel()
	g := wideGeometry()
	tree := plainTreeText(impl.PlainRun(g, []impl.Call{creating("/q"), writing("/q", 0, strings.Repeat("\x00", 2560)), creating("/p"), writing("/p", 0, alphabet('a', 2560))}).Nodes) + "\n"
	if len(tree) < 10240 || strings.Count(tree, "\n") != 4 {
		t.Fatalf("a tree of %d bytes", len(tree))
	}
	for _, left := range []int{len(tree) + 3, len(tree) + 2, len(tree), len(tree) - 1, len(tree) - 4, 5000, 100, 15, 14, 4, 3, 0} {
		got := checkReply(t, fmt.Sprint(left, " bytes left"), g, append(upTo(left), "tree", "sync", "x")...)
		want := 1048576 - left
		if left >= len(tree) {
			want += len(tree)
		}
		if left == len(tree)+3 {
			want += 3
		}
		if len(got) != want {
			t.Errorf("%d bytes left: %d are answered, not %d", left, len(got), want)
		}
	}
	// Trees alone, as many as a script may have.
	lines := append(upTo(1048000)[:4], make([]string, 396)...)
	for i := range lines[4:] {
		lines[4+i] = "tree"
	}
	if got := checkReply(t, "trees", g, lines...); len(got) != 12+(1048576-12)/len(tree)*len(tree) {
		t.Errorf("%d bytes of trees of %d", len(got), len(tree))
	}
}

// What stands behind a full reply is not seen, be it a crash or what is armed.
func TestServeFullReplyCrashes(t *testing.T) {
	t.Parallel()
	g := wideGeometry()
	for _, behind := range [][]string{{"crash", "sync", "mount"}, {"arm 1", "sync", "create /x", "sync", "mount"}, {"check", "sync"}} {
		for left := 0; left < 26; left += 5 {
			lines := append(upTo(left), behind...)
			checkServeFrom(t, fmt.Sprint(left, " bytes left, and ", behind), g, lines, len(lines)-len(behind))
		}
	}
}

// checkServeFrom is checkServe for scripts whose first lines only read; the document's answers to those are taken from promise 20.
func checkServeFrom(t *testing.T, name string, g impl.Geometry, lines []string, from int) {
	t.Helper()
	got := string(impl.Serve(scriptOf(lines), g))
	want := plainReply(g, lines[:from])
	m := newPlainMachine(g)
	for _, line := range lines[:4] {
		m.answer(plainLine([]byte(line)))
	}
	for _, line := range lines[from:] {
		answer := m.answer(plainLine([]byte(line))) + "\n"
		if len(want)+len(answer) > 1048576 {
			break
		}
		want += answer
	}
	if got != want {
		sameReplies(t, name, lines[from:], got, want)
	}
}

// sayable is a call that a line can have: what its kind does not use is zero, numbers have nine digits, and paths are fields. False if
// there is no such kind. Now and then its data need quoting.
func sayable(draw *rand.Rand, c impl.Call) (impl.Call, bool) {
	if c.Kind < 1 || c.Kind > 25 {
		return impl.Call{}, false
	}
	number := func(n int64) int64 { return min(max(n, -999999999), 999999999) }
	field := func(text string) string { return cmp.Or(strings.ReplaceAll(text, " ", "_"), "x") }
	if draw.Intn(3) == 0 {
		c.Data = strings.NewReplacer("a", "\x00", "b", " ", "c", "%", "d", "\xff", "e", "\n").Replace(c.Data)
	}
	said := said(impl.Call{Kind: c.Kind, Path: field(c.Path), To: field(c.To), Handle: number(c.Handle), Offset: number(c.Offset), Size: number(c.Size), Data: c.Data})
	return plainLine([]byte(said)).Call, true
}

// nextSaid draws a call that can be said.
func (w *scriptDraw) nextSaid() impl.Call {
	w.look()
	for {
		if c, ok := sayable(w.draw, w.next()); ok {
			return c
		}
	}
}

// Promise 20: scripts of drawn calls of every kind, trees and bad lines among them.
func TestServeDrawn(t *testing.T) {
	t.Parallel()
	draw := rand.New(rand.NewSource(1404))
	answers := map[string]int{}
	for i, g := range plainGeometries(draw, 60) {
		w := scriptDraw{draw: draw, most: []int{70, 300, 900, 2000}[draw.Intn(4)], names: 2 + draw.Intn(6), wild: draw.Intn(2) == 0, system: bareSystem(g)}
		var lines []string
		for size := 0; len(lines) < 150; size = len(scriptOf(lines)) {
			line := []string{"tree", "mount", "", "x", "read /a", "Tree"}[draw.Intn(6)]
			if draw.Intn(8) > 0 {
				c := w.nextSaid()
				if c.Kind == impl.CallLog {
					continue
				}
				w.system.call(c)
				line = said(c)
			}
			if size+1+len(line) > 65536 {
				break
			}
			lines = append(lines, line)
		}
		for _, answer := range plainTextLines([]byte(checkReply(t, fmt.Sprint("script ", i, " of ", g), g, lines...))) {
			answers[strings.Fields(answer)[0]]++
		}
	}
	for _, word := range []string{"ok", "error", "data", "handle", "stat", "names", "space", "file", "dir", "link", "end", "bad", "up"} {
		if answers[word] < 100 {
			t.Errorf("%d answers are %s", answers[word], word)
		}
	}
}

// The log is what Run tells of it, in all scripts of calls alone.
func TestServeDrawnLog(t *testing.T) {
	t.Parallel()
	draw := rand.New(rand.NewSource(1405))
	for i, g := range plainGeometries(draw, 10) {
		w := scriptDraw{draw: draw, most: 200, names: 4, system: bareSystem(g)}
		var lines []string
		var calls []impl.Call
		for range 60 {
			c := w.nextSaid()
			w.system.call(c)
			lines, calls = append(lines, said(c), "log"), append(calls, c, logNow())
		}
		want := ""
		for k, a := range impl.Run(impl.Mkfs(g), calls, -1).Answers {
			want += plainFormat(calls[k], a) + "\n"
		}
		if got := string(impl.Serve(scriptOf(lines), g)); got != want {
			sameReplies(t, fmt.Sprint("script ", i, " of ", g), lines, got, want)
		}
	}
}
