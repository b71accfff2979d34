package tests

import (
	"fmt"
	"math/rand"
	"slices"
	"testing"

	"loop.example/s01525/impl"
)

// crashCount counts what came of runs that were stopped and crashed: whether the transaction under way was there, and what was under way.
type crashCount struct {
	there, gone, inRecovery, whileMounting, inCheckpoint, again int
}

// everyKeep are choices of kept writes: none, all, each one alone, all but one, drawn ones.
func everyKeep(draw *rand.Rand, n int) [][]int64 {
	full := slices.Repeat([]int64{1}, n)
	keeps := [][]int64{nil, full}
	if n < 2 {
		return keeps[:n+1]
	}
	for i := range n {
		most, least := slices.Clone(full), make([]int64, n)
		most[i], least[i] = 0, 1
		keeps = append(keeps, most, least)
	}
	for range 3 {
		some := make([]int64, n)
		for i := range some {
			some[i] = draw.Int63n(2)
		}
		keeps = append(keeps, some)
	}
	return keeps
}

// crashRun is a run of calls on a disk, to be stopped anywhere.
type crashRun struct {
	t       *testing.T
	name    string
	d       impl.Disk
	calls   []impl.Call
	system  *plainSystem
	commits []int64
	trees   map[int64]string
	draw    *rand.Rand
	count   *crashCount
}

// tree is what Tree tells behind the first calls.
func (c *crashRun) tree(n int64) string {
	if _, ok := c.trees[n]; !ok {
		o := impl.Tree(c.d, c.calls[:n])
		if o.Code != 0 {
			c.t.Fatal(c.name, "the tree of", n, "calls has the code", o.Code)
		}
		c.trees[n] = value(o.Nodes)
	}
	return c.trees[n]
}

// least is how many calls were committed when the last sync or checkpoint was answered.
func (c *crashRun) least(answered int) int64 {
	least := int64(0)
	for i, call := range c.calls[:answered] {
		if call.Kind != impl.CallSync && call.Kind != impl.CallCheckpoint {
			continue
		}
		for _, n := range c.commits {
			if n <= int64(i)+1 {
				least = n
			}
		}
	}
	return least
}

// expected is how many calls' changes a crash behind so many operations leaves: those of the last commit, or of the one under way if
// each of its blocks stands where it belongs.
func (c *crashRun) expected(crashed impl.Disk, done int) int64 {
	n := int64(0)
	for i, m := range c.system.marks[1:] {
		if m.end <= done {
			n = c.system.commits[i]
		} else if m.appended < done {
			if !m.standsWhole(crashed) {
				c.count.gone++
				return n
			}
			c.count.there++
			return c.system.commits[i]
		} else if m.from < done {
			c.count.inCheckpoint++
		}
	}
	return n
}

// check is promise 16 of a disk that has crashed behind so many operations.
func (c *crashRun) check(crashed impl.Disk, done, answered int) int64 {
	n := c.expected(crashed, done)
	r := impl.Recover(crashed, -1)
	o := impl.Observe(r.Disk)
	if r.Code != 0 || o.Code != 0 || value(o.Nodes) != c.tree(n) {
		c.t.Fatalf("%s, stopped behind %d operations, %d answers: recovery has the code %d, Observe %d, and the tree is not that behind %d calls (rules %v)", c.name, done, answered, r.Code, o.Code, n, impl.Check(r.Disk))
	}
	if n != 0 && !slices.Contains(c.commits, n) || n < c.least(answered) || n > int64(answered)+1 {
		c.t.Fatalf("%s, stopped behind %d operations, %d answers: the tree is that behind %d calls; commits are %v", c.name, done, answered, n, c.commits)
	}
	// It can be mounted, and behind that nothing is left without a name.
	mounted := impl.Run(crashed, []impl.Call{checkpointing()}, -1)
	if mounted.Code != 0 || len(impl.Check(mounted.Disk)) != 0 || value(impl.Tree(crashed, nil).Nodes) != c.tree(n) || value(impl.Observe(mounted.Disk).Nodes) != c.tree(n) {
		c.t.Fatalf("%s, stopped behind %d operations: a mount has the code %d, or another tree", c.name, done, mounted.Code)
	}
	v, _ := plainVolumeOf(mounted.Disk.Durable)
	if slices.ContainsFunc(v.inodes, func(i impl.Inode) bool { return i.Kind != 0 && i.Links == 0 }) {
		c.t.Fatalf("%s, stopped behind %d operations: something has no name", c.name, done)
	}
	return n
}

// checkAgain stops the mount behind the crash at each operation, and crashes once more: it comes to the same tree (promises 9 and 16).
func (c *crashRun) checkAgain(crashed impl.Disk, n int64) {
	ops := impl.Run(crashed, nil, -1).Ops
	for limit := range ops + 1 {
		r := impl.Run(crashed, nil, limit)
		for _, keep := range fewKeeps(c.draw, len(r.Disk.Pending)) {
			twice := impl.DiskCrash(r.Disk, keep)
			o := impl.Observe(impl.Recover(twice, -1).Disk)
			if again := impl.Tree(twice, nil); o.Code != 0 || again.Code != 0 || value(again.Nodes) != c.tree(n) || value(o.Nodes) != c.tree(n) {
				c.t.Fatalf("%s: a mount that is stopped behind %d of %d operations and crashes leads to the codes %d and %d, or to another tree", c.name, limit, ops, o.Code, again.Code)
			}
			c.count.again++
		}
	}
}

// crashAnywhere stops a run at each of its operations, and crashes with all sorts of kept writes; every so often it does so twice.
func crashAnywhere(t *testing.T, name string, draw *rand.Rand, d impl.Disk, calls []impl.Call, count *crashCount) *plainSystem {
	t.Helper()
	c := &crashRun{t: t, name: name, d: d, calls: calls, trees: map[int64]string{}, draw: draw, count: count}
	c.system = checkSystem(t, name, d, calls)
	c.commits = impl.Commits(d, calls)
	tried := 0
	for done := range len(c.system.ops) + 1 {
		r := impl.Run(d, calls, int64(done))
		if r.Code != 0 || r.Ops != int64(done) || r.Stopped != (done < len(c.system.ops)) {
			t.Fatalf("%s, limit %d: code %d, %d operations, stopped %v", name, done, r.Code, r.Ops, r.Stopped)
		}
		if done < c.system.marks[0].end {
			count.inRecovery++
		} else if done < c.system.mounted {
			count.whileMounting++
		}
		for _, keep := range everyKeep(draw, len(r.Disk.Pending)) {
			crashed := impl.DiskCrash(r.Disk, keep)
			n := c.check(crashed, done, len(r.Answers))
			if tried++; tried%61 == 0 {
				c.checkAgain(crashed, n)
			}
		}
	}
	return c.system
}

// Short scripts of calls of every changing kind, with a sync here and there, on new disks with small logs.
func TestCrashOfEachKind(t *testing.T) {
	t.Parallel()
	draw := rand.New(rand.NewSource(1216))
	var n crashCount
	for name, calls := range map[string][]impl.Call{
		"files":     {creating("/f"), writing("/f", 0, letters(100, 1)), syncing(), appending("/f", letters(60, 2)), truncating("/f", 70), syncing(), writing("/f", 0, "x"), unlinking("/f"), checkpointing()},
		"names":     {mkdir("/a"), creating("/a/f"), linking("/a/f", "/g"), syncing(), renaming("/g", "/a/h"), unlinking("/a/f"), pointing("/s", "/a/h"), syncing(), renaming("/s", "/a/h"), rmdir("/a"), unlinking("/a/h"), rmdir("/a"), syncing()},
		"handles":   {creating("/f"), writing("/f", 0, "abc"), opening("/f"), syncing(), unlinking("/f"), syncing(), pwriting(1, 3, letters(70, 3)), syncing(), ftruncating(1, 10), creating("/g"), syncing(), closing(1), syncing(), creating("/h"), checkpointing()},
		"one takes": {creating("/f"), writing("/f", 0, letters(128, 1)), creating("/g"), syncing(), truncating("/f", 0), writing("/g", 0, letters(128, 2)), syncing(), truncating("/g", 64), writing("/f", 64, letters(64, 3)), truncating("/f", 64), writing("/g", 64, "y"), checkpointing()},
		"moves":     {mkdir("/a"), mkdir("/b"), creating("/a/f"), syncing(), renaming("/a/f", "/b/f"), syncing(), renaming("/b/f", "/a/g"), renaming("/a", "/b/a"), syncing(), renaming("/b/a", "/c"), renaming("/c", "/b"), syncing()},
		"no sync":   {mkdir("/a"), creating("/a/f"), creating("/a/g"), writing("/a/f", 0, letters(90, 1)), writing("/a/g", 0, letters(90, 2)), renaming("/a/f", "/a/g"), creating("/h"), linking("/h", "/a/i"), unlinking("/h")},
	} {
		for _, log := range []int64{28, 36, 48} {
			s := crashAnywhere(t, fmt.Sprint(name, ", a log of ", log), draw, newDisk(log+32, log, 8), calls, &n)
			if len(s.commits) < 3 && log == 28 {
				t.Error(name, s.commits)
			}
		}
	}
	if n.there < 60 || n.gone < 2000 || n.inCheckpoint < 100 || n.again < 1000 {
		t.Errorf("%+v", n)
	}
}

// Runs in a row, each on what the one before has left when it was stopped anywhere and crashed.
func TestCrashRunsOfCallsInARow(t *testing.T) {
	t.Parallel()
	draw := rand.New(rand.NewSource(1217))
	var n crashCount
	for _, log := range []int64{24, 32, 60} {
		d := newDisk(log+40, log, 9)
		for round := range 8 {
			w := scriptDraw{draw: draw, most: 150, names: 4}
			calls := w.calls(d, 30)
			s := crashAnywhere(t, fmt.Sprint("a log of ", log, ", round ", round), draw, d, calls, &n)
			done := draw.Intn(len(s.ops) + 1)
			if round%3 == 2 {
				done = draw.Intn(s.mounted + 1)
			}
			r := impl.Run(d, calls, int64(done))
			keeps := everyKeep(draw, len(r.Disk.Pending))
			d = impl.DiskCrash(r.Disk, keeps[draw.Intn(len(keeps))])
		}
	}
	if n.there < 50 || n.gone < 2000 || n.inCheckpoint < 100 || n.inRecovery < 50 || n.again < 1000 {
		t.Errorf("%+v", n)
	}
}

// Mounts that free what has no name, in several transactions, with some of them in the log that is recovered.
func TestCrashWhileMounting(t *testing.T) {
	t.Parallel()
	draw := rand.New(rand.NewSource(1225))
	var n crashCount
	var calls []impl.Call
	for i := range int64(4) {
		path := fmt.Sprint("/f", i)
		calls = append(calls, creating(path), writing(path, 0, letters(int(60+50*i), byte(i))), opening(path), unlinking(path))
	}
	for _, log := range []int64{28, 40} {
		d := impl.Run(newDisk(log+40, log, 8), append(calls, creating("/g"), syncing()), -1).Disk
		for _, from := range []impl.Disk{d, impl.Recover(d, -1).Disk} {
			s := crashAnywhere(t, fmt.Sprint("mounting, a log of ", log), draw, from, []impl.Call{creating("/h"), writing("/h", 0, letters(200, 7)), syncing(), unlinking("/g"), checkpointing()}, &n)
			if s.mounted == s.marks[0].end && log == 28 {
				t.Error("nothing was committed while mounting")
			}
		}
	}
	if n.whileMounting < 20 || n.inRecovery < 5 {
		t.Errorf("%+v", n)
	}
}

// Promise 17: what a sync has answered is there behind every crash, even if no pending write is kept; what comes behind it may be.
func TestSyncedIsThere(t *testing.T) {
	for _, settle := range []impl.Call{syncing(), checkpointing()} {
		d := newDisk(70, 28, 8)
		first := []impl.Call{mkdir("/a"), creating("/a/f"), writing("/a/f", 0, letters(100, 1)), settle}
		calls := append(slices.Clip(first), creating("/g"), writing("/g", 0, letters(60, 2)), unlinking("/a/f"), creating("/h"), checkpointing(), rmdir("/a"))
		whole := impl.Run(d, calls, -1)
		behind := impl.Run(d, first, -1).Ops
		for limit := behind; limit <= whole.Ops; limit++ {
			r := impl.Run(d, calls, limit)
			for _, keep := range everyKeep(rand.New(rand.NewSource(limit)), len(r.Disk.Pending)) {
				o := impl.Run(impl.DiskCrash(r.Disk, keep), []impl.Call{statOf("/a"), reading("/a/f", 0, 999), lstatOf("/g")}, -1)
				if o.Code != 0 || o.Answers[0].Code != 0 {
					t.Fatal("limit", limit, "code", o.Code)
				}
				if o.Answers[1].Data != letters(100, 1) && o.Answers[2].Code != 0 {
					t.Fatal("limit", limit, "what was synced is not there, and neither is what came behind it")
				}
			}
		}
		if r := impl.Run(d, calls, behind); len(r.Answers) < len(first) {
			t.Error("the sync has no answer")
		}
		// One operation less, and it is not answered.
		if r := impl.Run(d, calls, behind-1); len(r.Answers) != len(first)-1 {
			t.Error("the sync is answered too early")
		}
	}
}

// Numbers of transactions near the end of what may be: a run goes on, and the next one too, as long as the journal's number lets it.
func TestCrashNearTheLastNumber(t *testing.T) {
	t.Parallel()
	draw := rand.New(rand.NewSource(1219))
	var n crashCount
	for _, seq := range []int64{255, 65535, 4294967295 - 200000} {
		d := poked(newDisk(70, 28, 8), 64, superKind().plain(impl.JSuper{Log: 28, Seq: seq})...)
		crashAnywhere(t, fmt.Sprint("number ", seq), draw, d, []impl.Call{mkdir("/a"), creating("/a/f"), syncing(), writing("/a/f", 0, letters(200, 1)), unlinking("/a/f"), checkpointing()}, &n)
	}
}
