package tests

import (
	"fmt"
	"math/rand"
	"slices"
	"strings"
	"testing"

	"loop.example/s01525/impl"
)

// Moves of all sorts, and what is told of the tree behind them.
func TestPlainRename(t *testing.T) {
	t.Parallel()
	s := stemOf(t, "places", placeGeometry(128, 40, 4), placeCalls())
	for name, row := range renameRows() {
		var list []expected
		for _, c := range row.calls {
			list = append(list, expected{c, 0})
		}
		told := s.checkTold(t, name, append(list, expected{row.ask, row.want.Code})...)
		if got := told[len(list)]; value(got) != value(row.want) {
			t.Errorf("%s: %+v, not %+v", name, got, row.want)
		}
	}
	// 15 directories from a depth of 3 on are too deep, 14 are not.
	s.checkTold(t, "too deep", expected{renaming("/p/p", "/a/b/z"), impl.ErrDepth}, expected{renaming("/p/p/p", "/a/b/z"), 0})
	// Into itself and below itself, by a link too; that comes ahead of what stands there, and of the depth.
	for _, to := range []string{"/a/x", "/a/b/x", "/s/x", "/s/b/x", "/a/b", "/a/g", "/a/b/z", "/r/a/b/c"} {
		s.checkTold(t, "inside", expected{renaming("/a", to), impl.ErrInside}, expected{listOf("/a"), 0}, expected{listOf("/a/b"), 0})
	}
	// A link to a directory may go into it.
	s.checkTold(t, "a link inside", expected{renaming("/s", "/a/b/x"), 0}, expected{renaming("/a/b/x", "/a/b/x"), 0}, expected{listOf("/a/b/x"), 0})
}

// probeGeometry has a limit of six: a move out of a directory's last block, into a new block and a new pointer block, takes just that.
func probeGeometry() impl.Geometry {
	return impl.Geometry{Blocks: 160, Log: 27, Inodes: 40}
}

// probeTree has nine files in d, x and y in e, and 32 names in w: one more needs a block and a pointer block. Every file has another name
// in k, so that no inode is freed.
func probeTree() []impl.Call {
	calls := []impl.Call{mkdir("/d"), mkdir("/e"), mkdir("/w"), mkdir("/k")}
	calls = append(calls, manyFiles("/d", "a", "b", "c", "d", "e", "f", "g", "h", "i")...)
	calls = append(calls, manyFiles("/e", "x", "y")...)
	for _, c := range slices.Clone(calls[4:]) {
		calls = append(calls, linking(c.Path, "/k"+c.Path[2:]))
	}
	return append(calls, manyNames("/w", 32)...)
}

// Which entry is where: a new one is behind all others, and the last one stands where one was taken out. It is told by the credits of a
// move: six out of the last block of a directory, seven out of another one.
func TestPlainEntriesInOrder(t *testing.T) {
	t.Parallel()
	s := stemOf(t, "probes", probeGeometry(), probeTree())
	for _, row := range []struct {
		calls []impl.Call
		in    string
	}{
		{nil, "a b c d e f g h i"},
		{[]impl.Call{creating("/d/x")}, "a b c d e f g h i x"},
		{[]impl.Call{linking("/d/a", "/d/A")}, "a b c d e f g h i A"},
		{[]impl.Call{unlinking("/d/i")}, "a b c d e f g h"},
		{[]impl.Call{unlinking("/d/a")}, "i b c d e f g h"},
		{[]impl.Call{unlinking("/d/f")}, "a b c d e i g h"},
		{[]impl.Call{unlinking("/d/b"), unlinking("/d/h")}, "a i c d e f g"},
		{[]impl.Call{unlinking("/d/b"), unlinking("/d/c"), unlinking("/d/d"), unlinking("/d/i")}, "a f h g e"},
		{[]impl.Call{renaming("/d/a", "/d/a")}, "a b c d e f g h i"},
		{[]impl.Call{renaming("/d/a", "/d/j")}, "i b c d e f g h j"},
		{[]impl.Call{renaming("/d/i", "/d/j")}, "a b c d e f g h j"},
		{[]impl.Call{renaming("/d/h", "/d/j")}, "a b c d e f g i j"},
		{[]impl.Call{renaming("/d/a", "/d/b")}, "h i c d e f g b"},                  // without b: a i c d e f g h; without a: h i c d e f g
		{[]impl.Call{renaming("/d/b", "/d/a")}, "i h c d e f g a"},                  // without a: i b c d e f g h; without b: i h c d e f g
		{[]impl.Call{renaming("/d/i", "/d/a")}, "h b c d e f g a"},                  // without a: i b c d e f g h; without i: h b c d e f g
		{[]impl.Call{renaming("/d/a", "/d/i")}, "h b c d e f g i"},                  // without i: a b c d e f g h; without a: h b c d e f g
		{[]impl.Call{renaming("/d/a", "/d/f")}, "h b c d e i g f"},                  // without f: a b c d e i g h; without a: h b c d e i g
		{[]impl.Call{renaming("/d/f", "/d/a")}, "i b c d e h g a"},                  // without a: i b c d e f g h; without f: i b c d e h g
		{[]impl.Call{renaming("/d/h", "/d/i"), unlinking("/d/a")}, "i b c d e f g"}, // a b c d e f g i, then without a
		{[]impl.Call{renaming("/d/a", "/e/a")}, "i b c d e f g h"},
		{[]impl.Call{renaming("/e/x", "/d/b")}, "a i c d e f g h b"},
		{[]impl.Call{renaming("/e/x", "/d/z")}, "a b c d e f g h i z"},
		{[]impl.Call{renaming("/d/a", "/e/x"), renaming("/e/x", "/d/a")}, "i b c d e f g h a"},
	} {
		var list []expected
		for _, c := range row.calls {
			list = append(list, expected{c, 0})
		}
		names := strings.Fields(row.in)
		last := names[(len(names)-1)/4*4:]
		for _, name := range names {
			code := int64(impl.ErrCredit)
			if slices.Contains(last, name) {
				code = 0
			}
			s.checkTold(t, fmt.Sprint(row.calls, ", ", name), append(slices.Clip(list), expected{renaming("/d/"+name, "/w/"+name), code})...)
		}
	}
}

// A directory that grows to 160 entries, past its pointer block, and is emptied again, entry by entry; and directories as deep as they go.
func TestPlainLargeAndDeepDirectories(t *testing.T) {
	t.Parallel()
	g := impl.Geometry{Blocks: 200, Log: 64, Inodes: 30}
	calls := append([]impl.Call{mkdir("/d")}, manyNames("/d", 160)...)
	calls = append(calls, creating("/d/x"), statOf("/d"), listOf("/d"))
	full := len(calls)
	for _, i := range rand.New(rand.NewSource(1310)).Perm(160) {
		calls = append(calls, unlinking(fmt.Sprint("/d/n", i)), statOf("/d"))
	}
	calls = append(calls, spaceLeft(), rmdir("/d"), spaceLeft())
	a := checkTree(t, "160 entries", g, calls).Answers
	refused := 0
	for _, x := range a {
		refused += int(min(x.Code, 1))
	}
	if a[full-3].Code != impl.ErrTooBig || refused != 1 || a[full-2].Stat != (impl.Stat{Kind: 2, Links: 1, Size: 2560, Blocks: 41}) || len(a[full-1].Names) != 160 {
		t.Error(refused, a[full-3:full-1])
	}
	for left := 159; left >= 0; left-- {
		blocks := int64(left+3) / 4
		if blocks > 8 {
			blocks++
		}
		if got := a[full+2*(159-left)+1].Stat; got != (impl.Stat{Kind: 2, Links: 1, Size: int64(left) * 16, Blocks: blocks}) {
			t.Error(left, "entries:", got)
		}
	}
	if last := a[len(a)-3:]; last[0].Stat != (impl.Stat{Size: 28, Blocks: 200 - 2 - 64 - 2 - 15 - 1}) || last[2].Stat != (impl.Stat{Size: 29, Blocks: 200 - 2 - 64 - 2 - 15}) {
		t.Errorf("%+v", last)
	}
	var list []expected
	for depth := 1; depth <= 17; depth++ {
		list = append(list, expected{mkdir(strings.Repeat("/p", depth)), 0})
	}
	list[16].code = impl.ErrPath
	list = append(list, expected{pointing("/q", deepPath), 0}, expected{mkdir("/q/p"), impl.ErrDepth}, expected{creating("/q/f"), impl.ErrDepth}, expected{pointing("/q/s", "/"), impl.ErrDepth}, expected{renaming("/q", "/p/q"), 0}, expected{creating("/f"), 0}, expected{linking("/f", "/p/q/f"), impl.ErrDepth},
		expected{renaming("/f", "/p/q/f"), impl.ErrDepth}, expected{renaming("/p/q", deepPath), impl.ErrIsDir}, expected{unlinking("/p/q"), 0}, expected{rmdir(deepPath), 0}, expected{creating(deepPath), 0}, expected{statOf(deepPath), 0}, expected{statOf(deepPath + "/p"), impl.ErrPath})
	checkTold(t, "17 names", g, nil, list...)
}

// Names below the root are counted from there, wherever the link stood that led there.
func TestPlainFollowCountsFromTheRoot(t *testing.T) {
	far := strings.Repeat("/p", 14)
	g := placeGeometry(128, 40, 6)
	checkTold(t, "from far below", g, append(placeCalls(), pointing(far+"/s", "/a/b")), expected{creating(far + "/s/1"), 0}, expected{mkdir(far + "/s/2"), 0}, expected{linking("/f", far+"/s/3"), 0}, expected{renaming("/f", far+"/s/4"), 0}, expected{renaming("/e", far+"/s/5"), 0}, expected{listOf("/a/b"), 0})
	checkTold(t, "from near the root", g, append(placeCalls(), pointing("/k", far+"/p")), expected{creating("/k/1"), 0}, expected{renaming("/e", "/k/2"), 0}, expected{renaming("/a", "/k/3"), impl.ErrDepth}, expected{creating("/k/p/x"), impl.ErrDepth}, expected{linking("/f", "/k/p/x"), impl.ErrDepth}, expected{listOf("/k"), 0})
}

// Eight symbolic links are followed, nine are not, as the last name and in the middle.
func TestPlainFollowInARow(t *testing.T) {
	g := impl.Geometry{Blocks: 200, Log: 128, Inodes: 20}
	for rows := 1; rows <= 10; rows++ {
		calls, list := linkRow(rows)
		checkTold(t, fmt.Sprint(rows, " in a row"), g, calls, list...)
	}
	calls, list := linkSums()
	checkTold(t, "they add up", g, calls, list...)
	// To itself, in a ring, to nothing, to the root, and through a file.
	told := checkTold(t, "of all sorts", g, []impl.Call{creating("/f"), mkdir("/a"), pointing("/self", "/self"), pointing("/u", "/v"), pointing("/v", "/u"), pointing("/none", "/no/where"), pointing("/r", "/"), pointing("/thr", "/f/x"), pointing("/a/up", "/a"), pointing("/to", "/f")},
		expected{statOf("/self"), impl.ErrLoop}, expected{statOf("/self/x"), impl.ErrLoop}, expected{readlink("/self"), 0}, expected{statOf("/u"), impl.ErrLoop}, expected{lstatOf("/v"), 0}, expected{statOf("/none"), impl.ErrNoEntry}, expected{creating("/none"), impl.ErrExists}, expected{creating("/none/x"), impl.ErrNoEntry}, expected{listOf("/r"), 0}, expected{creating("/r/r/r/n"), 0},
		expected{statOf("/thr"), impl.ErrNotDir}, expected{listOf("/a/up/up/up"), 0}, expected{writing("/to", 0, "by the link"), 0}, expected{reading("/f", 0, 99), 0}, expected{creating("/to/x"), impl.ErrNotDir}, expected{unlinking("/self"), 0}, expected{renaming("/u", "/a/v"), 0}, expected{statOf("/v"), impl.ErrNoEntry}, expected{rmdir("/r"), impl.ErrNotDir}, expected{truncating("/to", 2), 0}, expected{lstatOf("/to"), 0}, expected{appending("/a/up/up/none", "x"), impl.ErrNoEntry})
	if told[2].Data != "/self" || told[4].Stat != (impl.Stat{Kind: 3, Links: 1, Size: 2, Blocks: 1}) || told[13].Data != "by the link" || strings.Join(told[11].Names, " ") != "up" || told[20].Stat.Size != 2 {
		t.Errorf("%+v", told)
	}
}

// Several names of one file: whatever is done through one of them is seen through all, and a ninth is refused.
func TestPlainNamesOfOneFile(t *testing.T) {
	g := impl.Geometry{Blocks: 100, Log: 64, Inodes: 12}
	calls := []impl.Call{mkdir("/a"), creating("/0")}
	names := []string{"/0"}
	for i := 1; i < 8; i++ {
		name := []string{"/", "/a/"}[i%2] + fmt.Sprint(i)
		calls = append(calls, linking(names[len(names)-1], name))
		names = append(names, name)
	}
	list := []expected{{linking("/0", "/a/9"), impl.ErrLinks}, {writing("/a/3", 100, "three"), 0}, {truncating("/6", 103), 0}}
	for i, name := range names {
		list = append(list, expected{reading(name, 98, 99), 0}, expected{statOf(name), 0}, expected{unlinking(name), 0})
		if i < 7 {
			list = append(list, expected{linking(names[7], name), 0}, expected{unlinking(name), 0})
		}
	}
	told := checkTold(t, "eight names", g, calls, append(list, expected{spaceLeft(), 0})...)
	links := int64(8)
	for i, e := range list {
		switch {
		case e.call.Kind == impl.CallRead && told[i].Data != "\x00\x00thr":
			t.Errorf("%q through %s", told[i].Data, e.call.Path)
		case e.call.Kind == impl.CallStat && told[i].Stat != (impl.Stat{Kind: 1, Links: links, Size: 103, Blocks: 1}):
			t.Error(e.call.Path, told[i].Stat, links)
		case e.call.Kind == impl.CallStat:
			links--
		}
	}
	if last := told[len(list)].Stat; last != (impl.Stat{Size: 10, Blocks: 100 - 74 - 1}) {
		t.Error(last)
	}
}
