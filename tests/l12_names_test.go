package tests

import (
	"fmt"
	"math/rand"
	"slices"
	"strings"
	"testing"

	"loop.example/s01525/impl"
)

// orderIn are the names in a directory, in the order in which they stand there, as the disk has them behind the calls.
func orderIn(t *testing.T, d impl.Disk, path string, calls ...impl.Call) string {
	t.Helper()
	d = grown(t, d, calls...)
	v, ok := plainVolumeOf(d.Durable)
	at := findNode(impl.Observe(d).Nodes, path)
	if !ok || at < 0 {
		t.Fatal("there is no", path)
	}
	var names []string
	for _, e := range v.dirs[impl.Observe(d).Nodes[at].Inode] {
		names = append(names, e.Name)
	}
	return strings.Join(names, " ")
}

func manyFiles(dir string, names ...string) []impl.Call {
	var calls []impl.Call
	for _, name := range names {
		calls = append(calls, creating(dir+"/"+name))
	}
	return calls
}

// Which entry is where: a new one is behind all others, and the last one stands where one was taken out.
func TestEntriesInOrder(t *testing.T) {
	base := append([]impl.Call{mkdir("/d"), mkdir("/e")}, append(manyFiles("/d", "a", "b", "c", "d", "e"), manyFiles("/e", "x", "y")...)...)
	d := grown(t, newDisk(200, 128, 32), base...)
	for _, c := range []struct {
		call     impl.Call
		in, into string
	}{
		{creating("/d/x"), "a b c d e x", "x y"},
		{mkdir("/d/A"), "a b c d e A", "x y"},
		{pointing("/d/s", "/d"), "a b c d e s", "x y"},
		{linking("/d/e", "/d/f"), "a b c d e f", "x y"},
		{linking("/d/e", "/e/e"), "a b c d e", "x y e"},
		{unlinking("/d/a"), "e b c d", "x y"},
		{unlinking("/d/c"), "a b e d", "x y"},
		{unlinking("/d/e"), "a b c d", "x y"},
		{renaming("/d/a", "/d/a"), "a b c d e", "x y"},
		{renaming("/d/a", "/d/f"), "e b c d f", "x y"},
		{renaming("/d/b", "/d/f"), "a e c d f", "x y"},
		{renaming("/d/e", "/d/f"), "a b c d f", "x y"},
		{renaming("/d/b", "/d/d"), "a e c d", "x y"}, // without d: a b c e; without b: a e c
		{renaming("/d/a", "/d/b"), "d e c b", "x y"}, // without b: a e c d; without a: d e c
		{renaming("/d/e", "/d/a"), "d b c a", "x y"}, // without a: e b c d; without e: d b c
		{renaming("/d/d", "/d/e"), "a b c e", "x y"}, // without e: a b c d; without d: a b c
		{renaming("/d/a", "/e/a"), "e b c d", "x y a"},
		{renaming("/d/c", "/e/x"), "a b e d", "y x"},
		{renaming("/d/e", "/e/y"), "a b c d", "x y"},
		{renaming("/e/x", "/d/b"), "a e c d b", "y"},
	} {
		if in, into := orderIn(t, d, "/d", c.call), orderIn(t, d, "/e", c.call); in != c.in || into != c.into {
			t.Errorf("%+v: %q and %q, not %q and %q", c.call, in, into, c.in, c.into)
		}
		checkSystem(t, "in order", d, []impl.Call{c.call, syncing()})
	}
}

// renameRow has calls that succeed, and what is told of the tree behind them.
type renameRow struct {
	calls []impl.Call
	ask   impl.Call
	want  impl.Answer
}

func renameRows() map[string]renameRow {
	file := placeItems()[3].data
	return map[string]renameRow{
		"a file, over another":         {[]impl.Call{renaming("/f", "/a/g")}, reading("/s/g", 0, 99), impl.Answer{Data: file}},
		"the old name is gone":         {[]impl.Call{renaming("/f", "/a/g")}, lstatOf("/f"), impl.Answer{Code: impl.ErrNoEntry}},
		"what was there is freed":      {[]impl.Call{renaming("/f", "/a/g")}, spaceLeft(), impl.Answer{Stat: impl.Stat{Size: 5, Blocks: 42}}},
		"over one of eight names":      {[]impl.Call{renaming("/f", "/d/n0")}, statOf("/d/n1"), impl.Answer{Stat: impl.Stat{Kind: 1, Links: 7}}},
		"onto itself":                  {[]impl.Call{renaming("/f", "/f"), logNow()}, statOf("/f"), impl.Answer{Stat: impl.Stat{Kind: 1, Links: 1, Size: 70, Blocks: 2}}},
		"onto itself through a link":   {[]impl.Call{renaming("/a/g", "/s/g")}, statOf("/a/g"), impl.Answer{Stat: impl.Stat{Kind: 1, Links: 1, Size: 10, Blocks: 1}}},
		"onto another name of it":      {[]impl.Call{renaming("/d/n0", "/d/n7")}, statOf("/d/n0"), impl.Answer{Stat: impl.Stat{Kind: 1, Links: 8}}},
		"a link's own names":           {[]impl.Call{linking("/l", "/k"), renaming("/l", "/k")}, lstatOf("/l"), impl.Answer{Stat: impl.Stat{Kind: 3, Links: 2, Size: 2, Blocks: 1}}},
		"a link is moved, not what is": {[]impl.Call{renaming("/t", "/x")}, readlink("/x"), impl.Answer{Data: "/f"}},
		"over a link":                  {[]impl.Call{renaming("/f", "/t")}, lstatOf("/t"), impl.Answer{Stat: impl.Stat{Kind: 1, Links: 1, Size: 70, Blocks: 2}}},
		"a link over a file":           {[]impl.Call{renaming("/l", "/f")}, statOf("/f"), impl.Answer{Code: impl.ErrNoEntry}},
		"a link that leads to nothing": {[]impl.Call{renaming("/n", "/a/n")}, readlink("/a/n"), impl.Answer{Data: "/nothing"}},
		"a link in a ring":             {[]impl.Call{renaming("/u", "/a/u")}, statOf("/v"), impl.Answer{Code: impl.ErrNoEntry}},
		"a directory onto an empty":    {[]impl.Call{renaming("/a", "/e")}, listOf("/e"), impl.Answer{Names: []string{"b", "g"}}},
		"a directory is one still":     {[]impl.Call{renaming("/a", "/e")}, spaceLeft(), impl.Answer{Stat: impl.Stat{Size: 5, Blocks: 41}}},
		"onto an empty one below":      {[]impl.Call{renaming("/p/p/p", "/a/b/z")}, statOf("/a/b/z" + strings.Repeat("/p", 13)), impl.Answer{Stat: impl.Stat{Kind: 2, Links: 1}}},
		"an empty one onto its own":    {[]impl.Call{renaming("/e", "/r/e")}, listOf("/e"), impl.Answer{}},
		"a directory with all below":   {[]impl.Call{renaming("/a", "/e/x")}, statOf("/e/x/b/c"), impl.Answer{Stat: impl.Stat{Kind: 1, Links: 1}}},
		"links to it lead nowhere":     {[]impl.Call{renaming("/a", "/e/x")}, statOf("/s"), impl.Answer{Code: impl.ErrNoEntry}},
		"within one of 160":            {[]impl.Call{renaming("/d/n5", "/d/x")}, statOf("/d"), impl.Answer{Stat: impl.Stat{Kind: 2, Links: 1, Size: 2560, Blocks: 41}}},
		"out of one of 160":            {[]impl.Call{renaming("/d/n5", "/x"), creating("/d/y")}, statOf("/d"), impl.Answer{Stat: impl.Stat{Kind: 2, Links: 1, Size: 2560, Blocks: 41}}},
		"into one of 160, over one":    {[]impl.Call{renaming("/f", "/d/n5")}, statOf("/d/n5"), impl.Answer{Stat: impl.Stat{Kind: 1, Links: 1, Size: 70, Blocks: 2}}},
		"within one of 160, over one":  {[]impl.Call{renaming("/d/n5", "/d/n100")}, statOf("/d"), impl.Answer{Stat: impl.Stat{Kind: 2, Links: 1, Size: 159 * 16, Blocks: 41}}},
		"to the depth's limit":         {[]impl.Call{renaming("/f", strings.Repeat("/p", 15)+"/x")}, statOf(strings.Repeat("/p", 15) + "/x"), impl.Answer{Stat: impl.Stat{Kind: 1, Links: 1, Size: 70, Blocks: 2}}},
		"over the deepest":             {[]impl.Call{renaming("/e", deepPath)}, statOf("/e"), impl.Answer{Code: impl.ErrNoEntry}},
		"up from the deepest":          {[]impl.Call{renaming("/q", "/a/q"), renaming(deepPath, "/x"), renaming("/f", "/x/y")}, statOf("/x/y"), impl.Answer{Stat: impl.Stat{Kind: 1, Links: 1, Size: 70, Blocks: 2}}},
	}
}

func TestRename(t *testing.T) {
	t.Parallel()
	d := placeDisk(128, 40, 4)
	for name, c := range renameRows() {
		calls := append(c.calls, c.ask)
		for i, call := range c.calls {
			if r := impl.Run(d, calls[:i+1], -1); r.Answers[i].Code != 0 {
				t.Errorf("%s: %+v has the code %d", name, call, r.Answers[i].Code)
			}
		}
		s := checkSystem(t, name, d, append(calls, checkpointing()))
		if got := s.told[len(calls)-1]; value(got) != value(c.want) {
			t.Errorf("%s: %+v, not %+v", name, got, c.want)
		}
		if strings.HasPrefix(name, "onto itself") && len(s.ops) > 0 {
			t.Error(name, "has changed something")
		}
	}
	// 15 directories from a depth of 3 on are too deep, 14 are not.
	r := impl.Run(d, []impl.Call{renaming("/p/p", "/a/b/z"), renaming("/p/p/p", "/a/b/z")}, -1)
	if !slices.Equal(codesOfRun(r), []int64{impl.ErrDepth, 0}) {
		t.Error(codesOfRun(r))
	}
}

// A directory that grows to 160 entries, past its pointer block, and is emptied again, entry by entry; and directories as deep as they go.
func TestLargeAndDeepDirectories(t *testing.T) {
	t.Parallel()
	calls := []impl.Call{mkdir("/d")}
	for i := range 160 {
		if i%8 == 0 {
			calls = append(calls, creating(fmt.Sprint("/d/n", i)))
		} else {
			calls = append(calls, linking(fmt.Sprint("/d/n", i-i%8), fmt.Sprint("/d/n", i)))
		}
	}
	calls = append(calls, creating("/d/x"), statOf("/d"), listOf("/d"))
	full := len(calls)
	draw := rand.New(rand.NewSource(1210))
	for _, i := range draw.Perm(160) {
		calls = append(calls, unlinking(fmt.Sprint("/d/n", i)))
	}
	calls = append(calls, statOf("/d"), spaceLeft(), rmdir("/d"), spaceLeft())
	s := checkSystem(t, "160 entries", newDisk(200, 64, 30), calls)
	refused := 0
	for _, a := range s.told {
		refused += int(min(a.Code, 1))
	}
	if s.told[full-3].Code != impl.ErrTooBig || refused != 1 || s.told[full-2].Stat != (impl.Stat{Kind: 2, Links: 1, Size: 2560, Blocks: 41}) || len(s.told[full-1].Names) != 160 {
		t.Error(refused, s.told[full-3:full-1])
	}
	last := s.told[len(s.told)-4:]
	if last[0].Stat != (impl.Stat{Kind: 2, Links: 1}) || last[3].Stat != (impl.Stat{Size: 29, Blocks: 200 - 2 - 64 - 2 - 15}) {
		t.Errorf("%+v", last)
	}
	calls = nil
	for depth := 1; depth <= 17; depth++ {
		calls = append(calls, mkdir(strings.Repeat("/p", depth)))
	}
	calls = append(calls, pointing("/q", deepPath), mkdir("/q/p"), creating("/q/f"), pointing("/q/s", "/"), renaming("/q", "/p/q"), creating("/f"), linking("/f", "/p/q/f"), renaming("/f", "/p/q/f"), renaming("/p/q", deepPath), unlinking("/p/q"), rmdir(deepPath), creating(deepPath))
	s = checkSystem(t, "17 names", newDisk(200, 64, 30), calls)
	codes := codesOfRun(impl.Run(newDisk(200, 64, 30), calls, -1))
	if !slices.Equal(codes[15:], []int64{0, impl.ErrPath, 0, impl.ErrDepth, impl.ErrDepth, impl.ErrDepth, 0, 0, impl.ErrDepth, impl.ErrDepth, impl.ErrIsDir, 0, 0, 0}) {
		t.Error(codes[15:])
	}
}

// Several names of one file (promise 21): whatever is done through one of them is seen through all.
func TestNamesOfOneFile(t *testing.T) {
	d := newDisk(100, 64, 12)
	calls := []impl.Call{mkdir("/a"), creating("/0")}
	names := []string{"/0"}
	for i := 1; i < 8; i++ {
		name := []string{"/", "/a/"}[i%2] + fmt.Sprint(i)
		calls = append(calls, linking(names[len(names)-1], name))
		names = append(names, name)
	}
	want := make([]byte, 0, 700)
	for i, name := range names {
		data := letters(70+i, byte(i))
		calls = append(calls, writing(name, int64(i)*60, data))
		want = append(want[:i*60], data...)
	}
	s := checkSystem(t, "eight names", d, calls)
	if i := slices.IndexFunc(s.told, func(a impl.Answer) bool { return a.Code != 0 }); i >= 0 {
		t.Fatal("call", i, s.told[i].Code)
	}
	behind := grown(t, d, calls...)
	for left := 8; left > 0; left-- {
		var asks []impl.Call
		for _, name := range names[8-left:] {
			asks = append(asks, reading(name, 0, 3000), statOf(name), lstatOf(name))
		}
		r := impl.Run(behind, append(asks, creating("/new"), linking(names[7], "/ninth"), syncing()), -1)
		for i := range left {
			stat := impl.Stat{Kind: 1, Links: int64(left), Size: int64(len(want)), Blocks: int64(len(want)+63) / 64}
			if stat.Blocks > 8 {
				stat.Blocks++
			}
			if r.Answers[3*i].Data != string(want) || r.Answers[3*i+1].Stat != stat || r.Answers[3*i+2].Stat != stat {
				t.Error(left, "names are left:", names[8-left+i], r.Answers[3*i+1].Stat, stat)
			}
		}
		if full := r.Answers[3*left+1].Code; (full == impl.ErrLinks) != (left == 8) {
			t.Error("a ninth name has the code", full)
		}
		behind = grown(t, behind, unlinking(names[8-left]))
	}
	// the root, a; a's block went with its last entry, and the root has one entry
	if space := impl.Run(behind, []impl.Call{spaceLeft(), listOf("/a"), listOf("/")}, -1).Answers; space[0].Stat != (impl.Stat{Size: 10, Blocks: 100 - 74 - 1}) || len(space[1].Names) != 0 || len(space[2].Names) != 1 {
		t.Error(space)
	}
}

// linkRow makes symbolic links one behind the other, the last one to a directory, and asks what they are good for.
func linkRow(rows int) ([]impl.Call, []expected) {
	calls := []impl.Call{mkdir("/end"), creating("/end/f")}
	for i := range rows {
		calls = append(calls, pointing(fmt.Sprint("/l", i), fmt.Sprint("/l", i+1)))
	}
	calls[len(calls)-1].To = "/end"
	code := int64(0)
	if rows > 8 {
		code = impl.ErrLoop
	}
	next := code
	if rows == 1 {
		next = impl.ErrNoEntry
	} else if rows == 9 {
		next = 0
	}
	return calls, []expected{
		{statOf("/l0"), code}, {statOf("/l0/f"), code}, {lstatOf("/l0/f"), code}, {lstatOf("/l0"), 0}, {readlink("/l0"), 0}, {listOf("/l0"), code}, {statOf("/l1"), next},
		{creating("/l0/g"), code}, {opening("/l0/f"), code}, {writing("/l0/f", 0, "x"), code}, {linking("/end/f", "/l0/i"), code}, {renaming("/l0/f", "/l0/h"), code},
		{renaming("/l0", "/m"), 0}, {statOf("/m"), code}, {linking("/m", "/k"), 0}, {statOf("/k"), code}, {unlinking("/m"), 0}, {statOf("/k"), code},
	}
}

// linkSums has links on the way that add up, whichever names they are: three, four and two.
func linkSums() ([]impl.Call, []expected) {
	return []impl.Call{mkdir("/d"), creating("/d/f"), pointing("/a", "/b"), pointing("/b", "/c"), pointing("/c", "/d"), pointing("/d/x", "/a"), pointing("/d/y", "/a/z"), pointing("/d/z", "/d/f")}, []expected{
		{statOf("/a/f"), 0}, {statOf("/a/x"), 0}, {statOf("/a/x/f"), 0}, {statOf("/a/x/z"), 0}, {statOf("/a/y"), 0}, {statOf("/a/x/y"), impl.ErrLoop}, {statOf("/c/x/y"), impl.ErrLoop}, {lstatOf("/a/x/y"), 0}, {statOf("/d/x/y"), impl.ErrLoop}, {lstatOf("/a/x/x"), 0}, {statOf("/a/x/x"), impl.ErrLoop}, {lstatOf("/d/x/x/f"), 0},
	}
}

// Symbolic links one behind the other (promise 22): eight are followed, nine are not, as the last name and in the middle.
func TestFollowInARow(t *testing.T) {
	for rows := 1; rows <= 10; rows++ {
		calls, list := linkRow(rows)
		checkExpected(t, fmt.Sprint(rows, " in a row"), grown(t, newDisk(200, 128, 20), calls...), nil, list...)
	}
	calls, list := linkSums()
	checkExpected(t, "they add up", grown(t, newDisk(200, 128, 20), calls...), nil, list...)
}

// Names below the root are counted from there, wherever the link stood that led there: here 14 names down, to a place 2 names down.
func TestFollowCountsFromTheRoot(t *testing.T) {
	far := strings.Repeat("/p", 14)
	d := grown(t, placeDisk(128, 40, 4), pointing(far+"/s", "/a/b"))
	checkExpected(t, "from far below", d, nil, expected{creating(far + "/s/1"), 0}, expected{mkdir(far + "/s/2"), 0}, expected{linking("/f", far+"/s/3"), 0}, expected{renaming("/f", far+"/s/4"), 0}, expected{renaming("/e", far+"/s/5"), 0}, expected{listOf("/a/b"), 0})
	// And the other way: a link near the root to a place that is 15 names down.
	d = grown(t, placeDisk(128, 40, 4), pointing("/k", far+"/p"))
	checkExpected(t, "from near the root", d, nil, expected{creating("/k/1"), 0}, expected{renaming("/e", "/k/2"), 0}, expected{renaming("/a", "/k/3"), impl.ErrDepth}, expected{creating("/k/p/x"), impl.ErrDepth}, expected{linking("/f", "/k/p/x"), impl.ErrDepth}, expected{listOf("/k"), 0})
}

// plainPath is a path with no symbolic link on it that leads to where these names do; false if nothing is there, or behind too many links.
func plainPath(nodes []impl.Node, names []string, links int) (string, bool) {
	at := ""
	for i, name := range names {
		at += "/" + name
		k := findNode(nodes, at)
		if k < 0 {
			return "", false
		}
		if nodes[k].Kind == impl.KindLink {
			if links == 0 {
				return "", false
			}
			return plainPath(nodes, slices.Concat(plainSplit(nodes[k].Data).Names, names[i+1:]), links-1)
		}
	}
	return max(at, "/"), true
}

// Promise 22 on drawn trees: a path with links leads to where the path leads that their targets say.
func TestFollowIsThePathWithoutLinks(t *testing.T) {
	t.Parallel()
	draw := rand.New(rand.NewSource(1222))
	same, none := 0, 0
	for range 40 {
		d := newDisk(300, 256, 30)
		calls := []impl.Call{}
		paths := []string{"/"}
		for range 25 {
			dir := strings.TrimSuffix(paths[draw.Intn(len(paths))], "/")
			path := dir + "/" + string([]byte{byte('a' + draw.Intn(5))})
			switch draw.Intn(5) {
			case 0:
				calls = append(calls, creating(path))
			case 1, 2:
				calls = append(calls, mkdir(path))
			default:
				calls = append(calls, pointing(path, paths[draw.Intn(len(paths))]+[]string{"", "/a", "/b"}[draw.Intn(3)]))
			}
			paths = append(paths, path)
		}
		nodes := impl.Tree(d, calls).Nodes
		for _, path := range paths {
			for _, more := range []string{"", "/a", "/b/c"} {
				if plainSplit(path+more).Code != 0 {
					continue
				}
				plain, ok := plainPath(nodes, plainSplit(path+more).Names, 8)
				r := impl.Run(d, append(slices.Clip(calls), statOf(path+more), statOf(max(plain, "/"))), -1)
				a, b := r.Answers[len(calls)], r.Answers[len(calls)+1]
				if ok != (a.Code == 0) || ok && value(a) != value(b) {
					t.Fatalf("%s answers %+v, %s %+v (%v)", path+more, a, plain, b, ok)
				}
				if ok && plain != path+more {
					same++
				} else if !ok {
					none++
				}
			}
		}
	}
	if same < 200 || none < 200 {
		t.Error(same, none)
	}
}
