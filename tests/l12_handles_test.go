package tests

import (
	"fmt"
	"math"
	"slices"
	"testing"

	"loop.example/s01525/impl"
)

// handleNumbers opens and closes handles of two files and a link, and tells the number that each call is to answer. Three that are refused
// come behind the first eight, and one behind the next eight.
func handleNumbers() (calls []impl.Call, want []int64) {
	open := func(path string, handle int64) {
		calls, want = append(calls, opening(path)), append(want, handle)
	}
	shut := func(handle int64) {
		calls, want = append(calls, closing(handle)), append(want, 0)
	}
	for n := int64(1); n <= 8; n++ {
		open([]string{"/f", "/g", "/l"}[n%3], n)
	}
	open("/f", 0)
	open("/a", 0)
	open("/no", 0)
	shut(5)
	shut(2)
	shut(7)
	open("/f", 2)
	open("/l", 5)
	shut(1)
	open("/g", 1)
	open("/f", 7)
	open("/g", 0)
	for n := int64(8); n >= 1; n-- {
		shut(n)
	}
	open("/f", 1)
	shut(1)
	open("/f", 1)
	return calls, want
}

// handleTree is what these calls need.
func handleTree() []impl.Call {
	return []impl.Call{creating("/f"), creating("/g"), mkdir("/a"), pointing("/l", "/g")}
}

// noHandle are calls of a handle that is none.
func noHandle(handle int64) []expected {
	return []expected{
		{pwriting(handle, 0, "x"), impl.ErrHandle}, {pwriting(handle, -1, ""), impl.ErrHandle}, {ftruncating(handle, 2561), impl.ErrHandle}, {preading(handle, -1, -1), impl.ErrHandle}, {fstatOf(handle), impl.ErrHandle}, {closing(handle), impl.ErrHandle},
	}
}

// behindHandle are the errors behind that of the handle, if handle 1 is open, and there are 12 blocks, 10 of which a call may change.
func behindHandle() []expected {
	return []expected{
		{pwriting(1, -1, letters(2561, 1)), impl.ErrRange}, {pwriting(1, 2561, ""), impl.ErrTooBig}, {pwriting(1, math.MaxInt64, "x"), impl.ErrTooBig}, {pwriting(1, 0, letters(2560, 1)), impl.ErrNoSpace},
		{pwriting(1, 0, letters(640, 1)), impl.ErrNoSpace}, {pwriting(1, 0, letters(576, 1)), impl.ErrCredit}, {pwriting(1, 0, letters(512, 1)), 0}, {ftruncating(1, -1), impl.ErrRange}, {ftruncating(1, 2561), impl.ErrTooBig}, {preading(1, 0, -1), impl.ErrRange},
		{preading(1, math.MinInt64, 0), impl.ErrRange}, {fstatOf(1), 0}, {closing(1), 0}, {closing(1), impl.ErrHandle},
	}
}

// handlesAhead are ways to have two handles open.
func handlesAhead() [][]impl.Call {
	return [][]impl.Call{nil, {opening("/f"), opening("/f")}, {opening("/f"), opening("/f"), opening("/f"), closing(3)}}
}

func TestHandleNumbers(t *testing.T) {
	d := grown(t, newDisk(60, 40, 8), handleTree()...)
	calls, want := handleNumbers()
	s := checkSystem(t, "numbers", d, calls)
	for i, a := range s.told {
		if a.Handle != want[i] {
			t.Error("call", i, calls[i], "has the handle", a.Handle, "not", want[i])
		}
	}
	codes := codesOfRun(impl.Run(d, calls, -1))
	if !slices.Equal(codes[8:11], []int64{impl.ErrHandles, impl.ErrIsDir, impl.ErrNoEntry}) || codes[18] != 0 || codes[19] != impl.ErrHandles {
		t.Error(codes)
	}
	// A handle that is none, whichever of them are open.
	for _, handle := range []int64{0, -1, 3, 9, 10, math.MaxInt64, math.MinInt64} {
		for _, ahead := range handlesAhead() {
			checkExpected(t, fmt.Sprint("handle ", handle), d, ahead, noHandle(handle)...)
		}
	}
	checkExpected(t, "in order", d, []impl.Call{opening("/f")}, behindHandle()...)
}

// outliveTree has the file that loses its names.
func outliveTree() []impl.Call {
	return []impl.Call{creating("/f"), writing("/f", 0, letters(100, 1)), creating("/g"), writing("/g", 0, "gg"), mkdir("/a"), creating("/a/h")}
}

// losses are ways of a file to lose its last name.
func losses() map[string][]impl.Call {
	return map[string][]impl.Call{
		"unlinked":           {unlinking("/f")},
		"renamed over":       {renaming("/g", "/f")},
		"renamed over away":  {renaming("/a/h", "/f"), unlinking("/f")},
		"moved and unlinked": {renaming("/f", "/a/x"), unlinking("/a/x")},
		"two names":          {linking("/f", "/a/x"), unlinking("/f"), unlinking("/a/x")},
		"the name is anew":   {unlinking("/f"), creating("/f"), writing("/f", 0, "other"), unlinking("/f")},
	}
}

// useNameless reads and writes through two handles, and closes them.
func useNameless() []impl.Call {
	return []impl.Call{
		lstatOf("/f"), fstatOf(1), preading(1, 90, 99), pwriting(2, 100, "more"), ftruncating(1, 103), preading(2, 98, 99), fstatOf(2), spaceLeft(), closing(2), fstatOf(2), preading(1, 0, 2), spaceLeft(), pwriting(1, 500, "x"), closing(1), preading(1, 0, 1), spaceLeft(), creating("/n"), checkpointing(),
	}
}

// checkNameless holds the answers to these against what they are to be; free is the space ahead of all.
func checkNameless(t *testing.T, name string, a []impl.Answer, free impl.Stat) {
	t.Helper()
	if a[1].Stat != (impl.Stat{Kind: 1, Size: 100, Blocks: 2}) || a[2].Data != letters(100, 1)[90:] || a[5].Data != letters(100, 1)[98:]+"mor" || a[6].Stat != (impl.Stat{Kind: 1, Size: 103, Blocks: 2}) || a[10].Data != letters(2, 1) {
		t.Errorf("%s: %+v", name, a[:11])
	}
	if a[7].Stat != a[11].Stat || a[9].Code != impl.ErrHandle || a[14].Code != impl.ErrHandle || a[3].Code+a[4].Code+a[8].Code+a[12].Code+a[13].Code+a[16].Code != 0 {
		t.Errorf("%s: %+v", name, a)
	}
	// With the last handle its two blocks (and the third that it got) and its inode are free.
	if a[15].Stat.Size != a[11].Stat.Size+1 || a[15].Stat.Blocks != a[11].Stat.Blocks+2 || a[15].Stat.Size < free.Size+1 {
		t.Errorf("%s: %+v, then %+v", name, a[11].Stat, a[15].Stat)
	}
}

// A file that is open is read and written, whatever becomes of its names (promise 25).
func TestHandlesOutliveNames(t *testing.T) {
	d := grown(t, newDisk(80, 48, 8), outliveTree()...)
	free := impl.Run(d, []impl.Call{spaceLeft()}, -1).Answers[0].Stat
	for name, lose := range losses() {
		calls := append([]impl.Call{opening("/f"), opening("/f")}, lose...)
		s := checkSystemStopped(t, name, d, append(calls, useNameless()...))
		checkNameless(t, name, s.told[len(calls):], free)
	}
}

// keptInodes has files whose inodes are in use as long as a handle is open.
func keptInodes() []impl.Call {
	return []impl.Call{
		creating("/a"), writing("/a", 0, "aaa"), opening("/a"), unlinking("/a"), creating("/b"), creating("/c"), creating("/d"), preading(1, 0, 9), writing("/b", 0, "bbb"), opening("/b"), closing(1), creating("/d"), opening("/d"), fstatOf(1), fstatOf(2), closing(2), statOf("/b"), reading("/b", 0, 9), linking("/b", "/e"), opening("/e"), unlinking("/b"), closing(2), reading("/e", 0, 9),
	}
}

// checkKept holds the answers to these, and the numbers of the inodes behind them, against what they are to be.
func checkKept(t *testing.T, a []impl.Answer, nodes []impl.Node) {
	t.Helper()
	if a[6].Code != impl.ErrNoSpace || a[7].Data != "aaa" || a[11].Code != 0 || a[12].Handle != 1 || a[13].Stat != (impl.Stat{Kind: 1, Links: 1}) || a[14].Stat.Size != 3 || a[16].Stat.Links != 1 || a[17].Data != "bbb" || a[22].Data != "bbb" {
		t.Errorf("%+v", a)
	}
	var inodes []int64
	for _, n := range nodes {
		inodes = append(inodes, n.Inode)
	}
	if !slices.Equal(inodes, []int64{1, 4, 2, 3}) {
		t.Error(inodes) // the root, c, d (which has a's), e
	}
}

// What has a name is not freed by closing, what has a handle not by unlinking; the inode's number is not given to another meanwhile.
func TestHandlesKeepTheirInodes(t *testing.T) {
	d := newDisk(80, 48, 4)
	s := checkSystem(t, "numbers of inodes", d, keptInodes())
	checkKept(t, s.told, impl.Tree(d, keptInodes()).Nodes)
}

// Behind a crash no handle is open: a mount frees what has no name, by rising number, in steps like those of calls.
func TestMountFreesWhatHasNoName(t *testing.T) {
	calls := []impl.Call{creating("/f"), writing("/f", 0, letters(120, 1)), creating("/g"), writing("/g", 0, letters(60, 2)), creating("/h"), opening("/h"), opening("/f"), opening("/g"), unlinking("/h"), unlinking("/f"), unlinking("/g"), pwriting(2, 300, "x"), syncing()}
	d := impl.Run(newDisk(80, 40, 8), calls, -1).Disk
	r := impl.Recover(d, -1).Disk
	if len(impl.Check(r)) != 0 || len(impl.Observe(r).Nodes) != 1 {
		t.Fatal("whole, and nothing to be seen")
	}
	for name, d := range map[string]impl.Disk{"to be recovered": d, "recovered": r} {
		s := checkSystemStopped(t, name, d, []impl.Call{spaceLeft(), logNow(), fstatOf(1), preading(2, 0, 9), closing(3), creating("/n"), syncing(), checkpointing()})
		// the credits are 6, 4 and 2, the limit 10: f's 3 revokes, a block of the table and two maps; g's revoke and block of the table; h's block is g's
		if s.told[0].Stat != (impl.Stat{Size: 7, Blocks: 32}) || s.told[1].State.Running != 8 || s.told[2].Code+s.told[3].Code+s.told[4].Code != 3*impl.ErrHandle {
			t.Errorf("%s: %+v", name, s.told[:5])
		}
		o := impl.Tree(d, nil)
		if o.Code != 0 || len(o.Nodes) != 1 {
			t.Errorf("%s: %+v", name, o)
		}
	}
	// A disk that is made by hand, whose inodes without a name lie between others; with pointer blocks, and with none at all.
	m := laid(impl.Geometry{Blocks: 700, Log: 120, Inodes: 40}, map[int64]item{
		1: dirOf(impl.Entry{Inode: 5, Name: "a"}, impl.Entry{Inode: 9, Name: "b"}), 2: sizedFile(0, 700), 3: sizedFile(0, 0), 5: sizedFile(1, 100), 6: holedFile(0, 2560, 0, 39), 7: holedFile(0, 2560), 9: linkTo(1, "/a"), 40: sizedFile(0, 64*15),
	})
	s := checkSystemStopped(t, "made by hand", m.disk, []impl.Call{logNow(), spaceLeft(), creating("/c"), checkpointing()})
	// the credits are 16, 2, 7, 2 and 20, the limit 30: the last one's 16 revokes, a block of the table and two maps are running
	if !slices.Equal(s.commits, []int64{0, 4}) || s.told[0].State.Running != 19 || s.told[1].Stat != (impl.Stat{Size: 37, Blocks: m.p.DataBlocks - 4}) {
		t.Errorf("%v %+v", s.commits, s.told[:2])
	}
	if got := impl.Check(grown(t, m.disk)); len(got) != 0 {
		t.Error(got)
	}
}

// Eight handles on eight files, all without a name, closed in any order, with syncs and checkpoints between.
func TestHandlesClosedInAnyOrder(t *testing.T) {
	d := newDisk(100, 64, 12)
	for _, order := range [][]int64{{1, 2, 3, 4, 5, 6, 7, 8}, {8, 7, 6, 5, 4, 3, 2, 1}, {3, 8, 1, 6, 2, 7, 5, 4}} {
		var calls []impl.Call
		for n := range int64(8) {
			path := fmt.Sprint("/f", n)
			calls = append(calls, creating(path), writing(path, n*40, letters(int(n)*9, byte(n))), opening(path), unlinking(path))
		}
		calls = append(calls, spaceLeft(), syncing())
		for i, handle := range order {
			calls = append(calls, closing(handle), spaceLeft())
			if i%3 == 2 {
				calls = append(calls, checkpointing())
			}
		}
		s := checkSystemStopped(t, fmt.Sprint(order), d, calls)
		last := s.told[len(s.told)-1]
		if order[7] == 4 && last.Stat != (impl.Stat{Size: 11, Blocks: 26}) {
			t.Error(order, last.Stat)
		}
	}
}
