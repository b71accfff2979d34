package tests

import (
	"math"
	"math/rand"
	"runtime"
	"slices"
	"sync"
	"testing"

	"loop.example/s01525/impl"
)

// mountDisks are disks of all sorts, made anew each time: new ones, ones with a log to be recovered, with files that have no name, and
// those that cannot be mounted.
func mountDisks() map[string]func() impl.Disk {
	disks := systemDisks()
	disks["a new one with a log"] = func() impl.Disk { return newDisk(60, 40, 8) }
	disks["to be recovered"] = func() impl.Disk {
		return impl.Run(newDisk(60, 40, 8), []impl.Call{mkdir("/a"), creating("/f"), writing("/f", 0, letters(100, 1)), opening("/f"), syncing(), unlinking("/f"), creating("/a/g"), syncing()}, -1).Disk
	}
	disks["stopped"] = func() impl.Disk {
		return impl.Run(newDisk(60, 40, 8), []impl.Call{mkdir("/a"), syncing()}, 5).Disk
	}
	return disks
}

// pureScripts are lists of calls, made anew each time.
func pureScripts() map[string]func() []impl.Call {
	return map[string]func() []impl.Call{
		"none":          func() []impl.Call { return nil },
		"an empty list": func() []impl.Call { return []impl.Call{} },
		"some": func() []impl.Call {
			return []impl.Call{listOf("/"), mkdir("/x"), listOf("/"), creating("/x/y"), writing("/x/y", 10, letters(70, 1)), reading("/x/y", 0, 99), listOf("/x"), opening("/x/y"), syncing(), unlinking("/x/y"), preading(1, 0, 99), listOf("/"), checkpointing(), closing(1), spaceLeft(), logNow(), pointing("/x/s", "/x"), readlink("/x/s"), syncing()}
		},
		"drawn": func() []impl.Call {
			w := scriptDraw{draw: rand.New(rand.NewSource(12)), most: 300, names: 4, wild: true}
			return w.calls(newDisk(80, 48, 8), 60)
		},
		"one too many": func() []impl.Call { return make([]impl.Call, 1001) },
	}
}

func TestPureRunOfCalls(t *testing.T) {
	t.Parallel()
	for name, disk := range mountDisks() {
		for of, calls := range pureScripts() {
			for _, limit := range []int64{math.MinInt64, -1, 0, 1, 7, 20, math.MaxInt64} {
				if len(disk().Durable) > 10000 && limit != -1 && limit != 7 {
					continue
				}
				checkPure(t, pureCase{"Run, " + name + ", " + of, impl.Run, func() []any { return []any{disk(), calls(), limit} }})
			}
			checkPure(t, pureCase{"Tree, " + name + ", " + of, impl.Tree, func() []any { return []any{disk(), calls()} }})
			checkPure(t, pureCase{"Commits, " + name + ", " + of, impl.Commits, func() []any { return []any{disk(), calls()} }})
		}
		for _, c := range []impl.Call{{}, mkdir("/n"), unlinking("/f"), listOf("/"), writing("/f", 0, letters(200, 1)), closing(1), {Kind: math.MinInt64}} {
			checkPure(t, pureCase{"Credits, " + name, impl.Credits, func() []any { return []any{disk(), c} }})
		}
	}
}

// Two answers of one call share nothing with each other, and neither do two lists of names.
func TestPureAnswersApart(t *testing.T) {
	d := sample().disk
	calls := []impl.Call{listOf("/"), listOf("/"), listOf("/d"), listOf("/"), mkdir("/x"), listOf("/x"), syncing()}
	r := impl.Run(d, calls, -1)
	checkApart(t, "Run", []any{d, calls, impl.Run(d, calls, -1)}, r)
	told := value(impl.Run(d, calls, -1))
	for _, a := range r.Answers {
		for i := range a.Names {
			a.Names[i] = "?"
		}
	}
	for i := range r.Disk.Durable {
		r.Disk.Durable[i]++
	}
	if value(impl.Run(d, calls, -1)) != told {
		t.Error("writing over answers is seen in the next ones")
	}
	checkApart(t, "Tree", []any{d, calls, impl.Tree(d, calls)}, impl.Tree(d, calls))
	checkApart(t, "Commits", []any{calls, impl.Commits(d, calls)}, impl.Commits(d, calls))
	for limit := range int64(20) {
		stopped := impl.Run(d, calls, limit)
		checkApart(t, "Run", []any{d, calls}, stopped)
	}
}

// systemCalls makes the four functions answer, wrong arguments among them, and tells all of it.
func systemCalls(seed int64) string {
	draw := rand.New(rand.NewSource(seed))
	var told []any
	for range 3 {
		d := newDisk(80+draw.Int63n(30), 24+draw.Int63n(30), 4+draw.Int63n(9))
		w := scriptDraw{draw: draw, most: 200, names: 4, wild: true}
		calls := w.calls(d, 40)
		r := impl.Run(d, calls, draw.Int63n(80)-10)
		crashed := impl.DiskCrash(r.Disk, []int64{1, 0, 1, 1})
		told = append(told, r, impl.Run(crashed, calls, -1), impl.Tree(crashed, calls[:9]), impl.Commits(d, calls), impl.Credits(crashed, calls[3]), impl.Credits(d, mkdir("/new")), impl.Run(r.Disk, calls, 3), impl.Tree(impl.Disk{}, calls))
	}
	return value(told)
}

// What a call answers does not hang on what was called before it, nor beside it.
func TestPureSystemCalls(t *testing.T) {
	t.Parallel()
	first := systemCalls(3)
	for seed := range int64(12) {
		systemCalls(seed)
		if systemCalls(3) != first {
			t.Fatal("behind other calls the same calls answer otherwise, seed", seed)
		}
	}
	var got [8]string
	var all sync.WaitGroup
	for i := range got {
		all.Add(1)
		go func() {
			defer all.Done()
			got[i] = systemCalls(3)
		}()
	}
	all.Wait()
	for i, g := range got {
		if g != first {
			t.Error("calls at once answer otherwise:", i)
		}
	}
}

// Whoever sends blocks to the log has ended when a run answers, wherever that was stopped.
func TestNothingRunsOn(t *testing.T) {
	d := newDisk(60, 28, 8)
	calls := []impl.Call{mkdir("/a"), creating("/a/f"), syncing(), writing("/a/f", 0, letters(200, 1)), checkpointing(), unlinking("/a/f"), rmdir("/a"), syncing()}
	before := runtime.NumGoroutine()
	for limit := int64(-1); limit <= impl.Run(d, calls, -1).Ops; limit++ {
		impl.Run(d, slices.Clone(calls), limit)
		impl.Tree(d, calls)
		impl.Commits(d, calls)
	}
	// One that has done its work may be about to leave.
	for range 1000 {
		if runtime.NumGoroutine() <= before {
			return
		}
		runtime.Gosched()
	}
	t.Error(runtime.NumGoroutine()-before, "goroutines more than before")
}
