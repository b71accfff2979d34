package tests

import (
	"fmt"
	"math/rand"
	"slices"
	"strings"
	"testing"

	"loop.example/s01525/impl"
)

// keepText are K for so many writes, drawn: none, all, or some of them, one of them alone, all but one.
func keepText(draw *rand.Rand, n int) string {
	keep := make([]int64, draw.Intn(n+1))
	odds := draw.Intn(5)
	for i := range keep {
		keep[i] = map[bool]int64{true: 1 + draw.Int63n(3)*draw.Int63n(2)}[draw.Intn(5) < odds]
	}
	switch draw.Intn(6) {
	case 0:
		return ones(n)
	case 1:
		keep = slices.Repeat([]int64{-1}, n)
		keep[draw.Intn(n)] = 0
	case 2:
		clear(keep)
	}
	return strings.TrimSuffix(" "+strings.Trim(fmt.Sprint(keep), "[]"), " ")
}

// brokenScript are calls, a sync, and more calls, among which the machine crashes.
type brokenScript struct {
	t     *testing.T
	name  string
	g     impl.Geometry
	calls []impl.Call
	// synced is how many calls there are up to the sync.
	synced int
	// more are calls that come behind the mount.
	more []impl.Call
	// there counts the scripts by how many calls behind the sync are there.
	there map[int]int
}

// drawnScript draws such calls.
func drawnScript(t *testing.T, draw *rand.Rand, i int, there map[int]int) *brokenScript {
	g := impl.Geometry{Log: 20 + draw.Int63n(40), Inodes: 4 + draw.Int63n(10)}
	g.Blocks = g.Log + 30 + draw.Int63n(60)
	w := scriptDraw{draw: draw, most: []int{70, 300}[draw.Intn(2)], names: 2 + draw.Intn(3), system: bareSystem(g)}
	b := &brokenScript{t: t, name: fmt.Sprint("script ", i, " of ", g), g: g, there: there}
	// Of the log a plain tree knows nothing.
	say := func(n int) (calls []impl.Call) {
		for len(calls) < n {
			if c := w.nextSaid(); c.Kind != impl.CallLog {
				w.system.call(c)
				calls = append(calls, c)
			}
		}
		return calls
	}
	b.calls = append(say(6+draw.Intn(12)), syncing())
	b.synced = len(b.calls)
	b.calls = append(b.calls, say(4+draw.Intn(10))...)
	b.more = say(5)
	return b
}

// check is promises 17 and 20: the tree behind the mount is that of a beginning of the calls that has the sync in it, and the script goes
// on from there. armed is the line ahead of the calls behind the sync, crash the one behind them.
func (b *brokenScript) check(armed, crash string) {
	b.t.Helper()
	var lines []string
	for i, c := range b.calls {
		lines = append(lines, said(c))
		if i == b.synced-1 {
			lines = append(lines, "tree", armed)
		}
	}
	// What is still armed may come up in the first mount, and not behind that.
	lines = append(lines, crash, "mount", "mount", "arm 999999999", "tree")
	for _, c := range b.more {
		lines = append(lines, said(c))
	}
	reply := string(impl.Serve(scriptOf(lines), b.g))
	treeOf := func(n int) string { return plainTreeText(impl.PlainRun(b.g, b.calls[:n]).Nodes) }
	ahead, behind, ok := strings.Cut(reply, "\n"+treeOf(b.synced)+"\narmed\n")
	if !ok || ahead+"\n" != plainReply(b.g, lines[:b.synced]) {
		b.t.Fatalf("%s, %s: up to the first tree the reply is %.300q", b.name, armed, reply)
	}
	answers := strings.Split(behind, "\n")
	count := len(b.calls) - b.synced
	answered := count
	if at := slices.Index(answers[:count], "crashed"); at >= 0 {
		answered = at
	}
	told := strings.Join(answers[count:], "\n")
	for n := b.synced; n <= min(b.synced+answered+1, len(b.calls)); n++ {
		if told == b.going(n, "mounted\nup\n") || told == b.going(n, "crashed\nmounted\n") {
			b.there[n-b.synced]++
			return
		}
	}
	b.t.Fatalf("%s, %s, %s: behind %d calls and a sync, and %d more, %.2000q is not that of any beginning", b.name, armed, crash, b.synced-1, answered, told)
}

// going is what is told from the last crash on, if so many calls are there: a mount closes all handles, and then the calls go on.
func (b *brokenScript) going(n int, mounts string) string {
	calls := slices.Clone(b.calls[:n])
	for handle := range int64(impl.MaxHandles) {
		calls = append(calls, closing(handle+1))
	}
	out := "crashed\n" + mounts + "armed\n" + plainTreeText(impl.PlainRun(b.g, calls).Nodes) + "\n"
	for i, a := range impl.PlainRun(b.g, append(calls, b.more...)).Answers[len(calls):] {
		out += plainFormat(b.more[i], a) + "\n"
	}
	return out
}

// Promises 17 and 20: crashes that are told, and armed at every operation of the calls behind the sync and beyond, with drawn writes kept.
func TestServeCrashAnywhere(t *testing.T) {
	t.Parallel()
	draw := rand.New(rand.NewSource(1406))
	there := map[int]int{}
	for i := range 40 {
		b := drawnScript(t, draw, i, there)
		d := impl.Mkfs(b.g)
		ops := impl.Run(d, b.calls, -1).Ops - impl.Run(d, b.calls[:b.synced], -1).Ops
		for n := range ops + 4 {
			for range 3 {
				b.check(fmt.Sprint("arm ", n+1, keepText(draw, 12)), "crash"+keepText(draw, 5))
			}
		}
		for range 3 {
			b.check("arm 999999999", "crash"+keepText(draw, 5))
		}
	}
	if there[0] < 100 || there[1] < 10 || there[3] < 10 || len(there) < 6 {
		t.Error("so many calls behind the sync are there, so often:", there)
	}
}

// drawnLine is a line of any kind; calls are about what is there.
func (w *scriptDraw) drawnLine(m *plainMachine) string {
	switch n := w.draw.Intn(40); {
	case n == 0:
		return "check"
	case n == 1:
		return "tree"
	case n == 2:
		return "crash" + keepText(w.draw, 4)
	case n <= 5:
		return fmt.Sprint("arm ", 1+w.draw.Intn(1+w.draw.Intn(40)), keepText(w.draw, 14))
	case n == 6:
		return []string{"", "x", "arm", "crash x", "sync 1"}[w.draw.Intn(5)]
	case n == 7 || !m.up && n < 30:
		return "mount"
	case n == 8:
		return "sync"
	case n == 9:
		return "log"
	}
	return said(w.nextSaid())
}

// Drawn scripts of lines of all kinds: the machine goes up and down as the document says, and each line's answer is that of the runs.
func TestServeMachineDrawn(t *testing.T) {
	t.Parallel()
	draw := rand.New(rand.NewSource(1407))
	answers, down := map[string]int{}, map[string]int{}
	for i := range 150 {
		g := impl.Geometry{Log: 20 + draw.Int63n(50), Inodes: 3 + draw.Int63n(12)}
		g.Blocks = g.Log + 20 + draw.Int63n(80)
		w := scriptDraw{draw: draw, most: []int{70, 300, 600}[draw.Intn(3)], names: 2 + draw.Intn(5), system: bareSystem(g)}
		m := newPlainMachine(g)
		var lines []string
		want := ""
		for range 110 {
			line := w.drawnLine(m)
			l := plainLine([]byte(line))
			answer := m.answer(l)
			switch word := strings.Fields(answer)[0]; {
			case answer == "mounted":
				w.system, _ = plainSystemOf(m.disk, nil)
			case answer == "crashed":
				down[strings.Fields(line)[0]]++
			case word != "down" && l.Kind == impl.LineCall:
				w.system.call(l.Call)
			}
			answers[strings.Fields(answer)[0]]++
			lines, want = append(lines, line), want+answer+"\n"
		}
		if got := string(impl.Serve(scriptOf(lines), g)); got != want {
			sameReplies(t, fmt.Sprint("script ", i, " of ", g), lines, got, want)
		}
	}
	for _, word := range []string{"ok", "error", "crashed", "mounted", "up", "down", "armed", "check", "bad", "dir", "log"} {
		if answers[word] < 50 {
			t.Errorf("%d answers are %s", answers[word], word)
		}
	}
	for _, word := range []string{"crash", "sync", "mount", "checkpoint", "create", "rename", "unlink"} {
		if down[word] < 5 {
			t.Errorf("%d crashes in %s", down[word], word)
		}
	}
}

// Promise 25 of scripts: a file that was open without a name when the machine crashed is free behind the mount, wherever that crashes.
func TestServeCrashFreesNameless(t *testing.T) {
	t.Parallel()
	g := impl.Geometry{Blocks: 60, Log: 24, Inodes: 8}
	ahead := []string{"mkdir /d"}
	for i := range 5 {
		ahead = append(ahead, fmt.Sprint("create /d/", i), fmt.Sprint("fill /d/", i, " 0 70 a"), fmt.Sprint("open /d/", i), fmt.Sprint("unlink /d/", i))
	}
	ahead = append(ahead, "sync", "space", "crash")
	crashes := 0
	for n := 1; n <= crashes+2; n++ {
		for _, k := range []string{"", ones(600), " 1 0 1 1 0 1"} {
			lines := append(slices.Clip(ahead), fmt.Sprint("arm ", n, k), "mount", "mount", "space", "list /d", "fstat 1", "checkpoint", "check", "mount", "space", "tree")
			reply := checkServe(t, lines[len(ahead)], g, lines...)
			got := reply[len(ahead)-2:]
			if got[0] != "space 1 17" || got[1] != "crashed" || !slices.Contains(got, "space 6 27") || got[len(got)-1] != "end" && got[len(got)-1] != "down" {
				t.Fatalf("%s: %q", lines[len(ahead)], got)
			}
			if got[3] == "crashed" {
				crashes = n
			}
		}
	}
	// More than the recovery of one transaction: the mount commits as well.
	if crashes < 20 {
		t.Error("the mount has", crashes, "operations")
	}
}
