package tests

import (
	"fmt"
	"maps"
	"math/rand"
	"slices"
	"testing"

	"loop.example/s01525/impl"
)

// newDisk is one that the document makes.
func newDisk(blocks, log, inodes int64) impl.Disk {
	return impl.Disk{Durable: plainMkfs(impl.Geometry{Blocks: blocks, Log: log, Inodes: inodes})}
}

// drawnDisk is a whole disk with a drawn tree whose blocks lie anywhere, with files that have no name, and with bytes where none are asked for.
func drawnDisk(draw *rand.Rand) impl.Disk {
	g := impl.Geometry{Log: 20 + draw.Int63n(80), Inodes: 4 + draw.Int63n(14)}
	g.Blocks = g.Log + 20 + draw.Int63n(120)
	p, _ := plainPlaces(g)
	order := runOf(p.Data, int(p.DataBlocks))
	draw.Shuffle(len(order), func(i, j int) { order[i], order[j] = order[j], order[i] })
	m := laidOver(g, drawnItems(draw, g), order)
	for _, b := range m.free {
		m.put(b, 0, drawn(64, b)...)
	}
	m.put(2, 0, drawn(int(64*g.Log), 7)...)
	return m.disk
}

// scripts are drawn calls on drawn disks and on new ones.
func scripts(draw *rand.Rand, n, length int, use func(name string, d impl.Disk, calls []impl.Call)) {
	for i := range n {
		d := drawnDisk(draw)
		if i%2 == 0 {
			log := 20 + draw.Int63n(60)
			d = newDisk(log+30+draw.Int63n(100), log, 6+draw.Int63n(12))
		}
		w := scriptDraw{draw: draw, most: []int{70, 300, 900, 2700}[draw.Intn(4)], names: 2 + draw.Intn(6), wild: draw.Intn(2) == 0}
		use(fmt.Sprint("script ", i), d, w.calls(d, length))
	}
}

// Drawn calls answer as the document says, down to each operation on the disk; all kinds succeed, and all codes are among them.
func TestRunDrawn(t *testing.T) {
	t.Parallel()
	codes, kinds := map[int64]int{}, map[int64]int{}
	commits := 0
	scripts(rand.New(rand.NewSource(1201)), 90, 120, func(name string, d impl.Disk, calls []impl.Call) {
		s := checkSystem(t, name, d, calls)
		for i, a := range s.told {
			codes[a.Code]++
			if a.Code == 0 {
				kinds[calls[i].Kind]++
			}
		}
		commits += len(s.commits)
	})
	for kind := int64(1); kind <= 25; kind++ {
		if kinds[kind] < 20 {
			t.Error("kind", kind, "succeeds", kinds[kind], "times")
		}
	}
	for _, code := range append(runOf(30, 20), 0) {
		if codes[code] < 1 && code != impl.ErrTooBig && code != impl.ErrDepth && code != impl.ErrLinks {
			t.Error("code", code, "is not there:", codes)
		}
	}
	if commits < 700 {
		t.Error(commits, "commits")
	}
}

// The least and the largest disks, and those around the borders of the maps.
func TestRunOnEdgeGeometries(t *testing.T) {
	t.Parallel()
	draw := rand.New(rand.NewSource(1203))
	for _, g := range []impl.Geometry{
		{Blocks: 22, Log: 16, Inodes: 1}, {Blocks: 22, Log: 16, Inodes: 2}, {Blocks: 30, Log: 20, Inodes: 3}, {Blocks: 26, Log: 20, Inodes: 2}, {Blocks: 512, Log: 100, Inodes: 9}, {Blocks: 513, Log: 100, Inodes: 9}, {Blocks: 1025, Log: 64, Inodes: 255},
		{Blocks: 2048, Log: 512, Inodes: 256}, {Blocks: 2048, Log: 32, Inodes: 256}, {Blocks: 600, Log: 512, Inodes: 16},
	} {
		if _, ok := plainPlaces(g); !ok {
			t.Fatal(g)
		}
		d := newDisk(g.Blocks, g.Log, g.Inodes)
		for _, most := range []int{100, 2600} {
			w := scriptDraw{draw: draw, most: most, names: 5, wild: true}
			s := checkSystem(t, fmt.Sprint(g), d, append(w.calls(d, 60), checkpointing(), listOf("/")))
			if g.Log >= 64 && len(s.commits) == 0 {
				t.Error(g, "nothing was committed")
			}
		}
	}
}

// A run that is stopped anywhere has the answers up to there.
func TestRunDrawnStopped(t *testing.T) {
	t.Parallel()
	ops := 0
	scripts(rand.New(rand.NewSource(1202)), 24, 60, func(name string, d impl.Disk, calls []impl.Call) {
		ops += len(checkSystemStopped(t, name, d, calls).ops)
	})
	if ops < 1500 {
		t.Error(ops, "operations")
	}
}

// Promise 13, and what CallSpace tells: behind any calls the tree can be told, and behind a checkpoint the disk itself is whole.
func TestWholeBehindCalls(t *testing.T) {
	t.Parallel()
	draw := rand.New(rand.NewSource(1213))
	spaces := 0
	scripts(draw, 30, 100, func(name string, d impl.Disk, calls []impl.Call) {
		for range 12 {
			n := draw.Intn(len(calls) + 1)
			o := impl.Tree(d, calls[:n])
			r := impl.Run(d, append(slices.Clip(calls[:n]), checkpointing(), spaceLeft()), -1)
			if broken := impl.Check(r.Disk); o.Code != 0 || len(broken) > 0 || len(r.Disk.Pending) > 0 {
				t.Fatalf("%s, %d calls: Tree has the code %d, and rules %v do not hold", name, n, o.Code, broken)
			}
			if seen := impl.Observe(r.Disk); value(seen) != value(o) {
				t.Fatalf("%s, %d calls: Observe tells %+v, Tree %+v", name, n, seen, o)
			}
			v, _ := plainVolumeOf(r.Disk.Durable)
			if slices.ContainsFunc(v.inodes, func(i impl.Inode) bool { return i.Kind == impl.KindFile && i.Links == 0 }) {
				continue
			}
			spaces++
			u, left := impl.Count(o.Nodes), r.Answers[n+1].Stat
			if left.Size != v.g.Inodes-u.Inodes || left.Blocks != v.p.DataBlocks-u.Blocks {
				t.Fatalf("%s, %d calls: %+v is left, of %+v", name, n, left, u)
			}
		}
	})
	if spaces < 100 {
		t.Error(spaces)
	}
}

// withoutLog are answers in which those of CallLog tell nothing.
func withoutLog(answers []impl.Answer) string {
	answers = slices.Clone(answers)
	for i := range answers {
		answers[i].State = impl.TxnState{}
	}
	return value(answers)
}

// Promise 15: with the calls that are refused or without them, all other answers are the same, and the tree.
func TestRefusedCallsChangeNothing(t *testing.T) {
	t.Parallel()
	left := 0
	scripts(rand.New(rand.NewSource(1215)), 40, 120, func(name string, d impl.Disk, calls []impl.Call) {
		r := impl.Run(d, calls, -1)
		var good []impl.Call
		var told []impl.Answer
		for i, a := range r.Answers {
			if a.Code == 0 {
				good, told = append(good, calls[i]), append(told, a)
			}
		}
		left += len(calls) - len(good)
		again := impl.Run(d, good, -1)
		if withoutLog(again.Answers) != withoutLog(told) {
			t.Fatal(name, "answers otherwise without what is refused")
		}
		// No operation is done for them either, but for what group commit puts together: nothing hangs on them.
		if value(again.Answers) != value(told) || again.Ops != r.Ops || !sameDisk(again.Disk, r.Disk) {
			t.Fatal(name, "does", again.Ops, "operations without what is refused, and", r.Ops, "with it")
		}
		if value(impl.Tree(d, good)) != value(impl.Tree(d, calls)) {
			t.Fatal(name, "has another tree without what is refused")
		}
	})
	if left < 1000 {
		t.Error(left)
	}
}

// Promise 18: behind a sync and with no handle open, calls answer as in a run of their own.
func TestRunInTwo(t *testing.T) {
	t.Parallel()
	draw := rand.New(rand.NewSource(1218))
	cuts := 0
	scripts(draw, 40, 100, func(name string, d impl.Disk, calls []impl.Call) {
		for range 3 {
			n := draw.Intn(len(calls) + 1)
			first := slices.Clone(calls[:n])
			s, _ := plainSystemOf(d, first)
			for _, handle := range slices.Sorted(maps.Keys(s.open)) {
				first = append(first, closing(handle))
			}
			first = append(first, syncing())
			whole := impl.Run(d, append(slices.Clip(first), calls[n:]...), -1)
			behind := impl.Run(d, first, -1).Disk
			for _, disk := range []impl.Disk{behind, impl.DiskFlush(behind), impl.DiskCrash(behind, nil), impl.Recover(behind, -1).Disk} {
				own := impl.Run(disk, calls[n:], -1)
				if own.Code != 0 || withoutLog(own.Answers) != withoutLog(whole.Answers[len(first):]) {
					t.Fatalf("%s, cut at %d: code %d, or other answers", name, n, own.Code)
				}
				if value(impl.Tree(disk, calls[n:])) != value(impl.Tree(d, append(slices.Clip(first), calls[n:]...))) {
					t.Fatalf("%s, cut at %d: another tree", name, n)
				}
			}
			cuts++
		}
	})
	if cuts != 120 {
		t.Error(cuts)
	}
}

// Promise 11: the running transaction never has more than the limit, and the log never stands in the way.
func TestRunningWithinTheLimit(t *testing.T) {
	t.Parallel()
	full := 0
	scripts(rand.New(rand.NewSource(1211)), 40, 100, func(name string, d impl.Disk, calls []impl.Call) {
		var asked []impl.Call
		for _, c := range calls {
			asked = append(asked, c, logNow())
		}
		r := impl.Run(d, asked, -1)
		if r.Code != 0 || len(r.Answers) != len(asked) {
			t.Fatal(name, "has the code", r.Code)
		}
		v, _ := plainVolumeOf(d.Durable)
		for i := 1; i < len(asked); i += 2 {
			s := r.Answers[i].State
			if s.Running > v.g.Log/4 || s.Used > v.g.Log {
				t.Fatalf("%s, call %d: %+v", name, i, s)
			}
			if s.Running == v.g.Log/4 {
				full++
			}
		}
	})
	if full < 20 {
		t.Error(full)
	}
}
