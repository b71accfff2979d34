package tests

import (
	"maps"
	"math"
	"slices"
	"strings"
	"testing"

	"loop.example/s01525/impl"
)

// deepPath is that of the directory which lies 16 names below the root.
var deepPath = strings.Repeat("/p", 16)

// placeItems are a tree with all that can stand against a call: 8 names (/d/..), 160 entries (d), depth 16 (behind /q), links that lead
// to a directory (s), to themselves (l), in a ring (u, v), to nothing (n) and to the root (r).
func placeItems() map[int64]item {
	e := func(inode int64, name string) impl.Entry { return impl.Entry{Inode: inode, Name: name} }
	items := map[int64]item{
		1:  dirOf(e(2, "a"), e(3, "f"), e(4, "s"), e(5, "l"), e(6, "d"), e(7, "n"), e(8, "r"), e(9, "e"), e(10, "q"), e(11, "p"), e(51, "u"), e(52, "v"), e(53, "t")),
		2:  dirOf(e(47, "b"), e(48, "g")),
		3:  sizedFile(1, 70),
		4:  linkTo(1, "/a"),
		5:  linkTo(1, "/l"),
		7:  linkTo(1, "/nothing"),
		8:  linkTo(1, "/"),
		9:  dirOf(),
		10: linkTo(1, deepPath),
		47: dirOf(e(49, "c"), e(50, "z")),
		48: sizedFile(1, 10),
		49: fileOf(1, ""),
		50: dirOf(),
		51: linkTo(1, "/v"),
		52: linkTo(1, "/u/x"),
		53: linkTo(1, "/f"),
	}
	for number := int64(11); number < 26; number++ {
		items[number] = dirOf(e(number+1, "p"))
	}
	items[26] = dirOf()
	entries := manyEntries(160)
	for i := range entries {
		entries[i].Inode = 27 + int64(i/8)
		items[entries[i].Inode] = fileOf(8, "")
	}
	items[6] = dirOf(entries...)
	return items
}

// placeDisk is such a tree with so many free blocks and inodes.
func placeDisk(log, blocks, inodes int64) impl.Disk {
	return laid(placeGeometry(log, blocks, inodes), placeItems()).disk
}

// placeGeometry has so much more than that tree takes.
func placeGeometry(log, blocks, inodes int64) impl.Geometry {
	items := placeItems()
	wide := laid(impl.Geometry{Blocks: 1000, Log: log, Inodes: 60}, items)
	used := wide.p.DataBlocks - int64(len(wide.free))
	g := impl.Geometry{Blocks: 1000, Log: log, Inodes: int64(len(items)) + inodes}
	p, _ := plainPlaces(g)
	g.Blocks = p.Data + used + blocks
	for {
		p, _ = plainPlaces(g)
		if p.DataBlocks == used+blocks {
			return g
		}
		g.Blocks += used + blocks - p.DataBlocks
	}
}

// placeDisks are it with room, without a free block or inode, with a log for hardly any change, and with neither.
func placeDisks() map[string]impl.Disk {
	return map[string]impl.Disk{"room": placeDisk(128, 40, 4), "full": placeDisk(128, 0, 0), "a small log": placeDisk(16, 40, 4), "a small log, full": placeDisk(16, 0, 0)}
}

func TestPlaceDisks(t *testing.T) {
	for name, d := range placeDisks() {
		if broken := plainCheck(d); len(broken) > 0 {
			t.Fatal(name, broken)
		}
		space := impl.Run(d, []impl.Call{spaceLeft()}, -1).Answers[0].Stat
		if strings.HasSuffix(name, "full") && space != (impl.Stat{}) || !strings.HasSuffix(name, "full") && space != (impl.Stat{Size: 4, Blocks: 40}) {
			t.Error(name, space)
		}
	}
}

// expected is a call, and the code that it is to answer.
type expected struct {
	call impl.Call
	code int64
}

// checkExpected carries the calls out in one run, behind some others, and holds them against what was written down, and the whole run
// against the document.
func checkExpected(t *testing.T, name string, d impl.Disk, ahead []impl.Call, list ...expected) *plainSystem {
	t.Helper()
	calls := slices.Clone(ahead)
	for _, e := range list {
		calls = append(calls, e.call)
	}
	r := impl.Run(d, calls, -1)
	if len(r.Answers) != len(calls) {
		t.Fatalf("%s: the run has the code %d, and %d answers", name, r.Code, len(r.Answers))
	}
	for i, e := range list {
		if got := r.Answers[len(ahead)+i]; got.Code != e.code {
			t.Errorf("%s: call %d, %+v, has the code %d, not %d", name, i, e.call, got.Code, e.code)
		}
	}
	return checkSystem(t, name, d, calls)
}

const longName = "/abcdefghijklmn"

// refusedCalls are refused, whatever room there is: what is told first stands ahead of all else that can be said against the call.
func refusedCalls() []expected {
	long, wide := strings.Repeat("x", 2561), strings.Repeat("/p", 17)
	var list []expected
	row := func(code int64, calls ...impl.Call) {
		for _, c := range calls {
			list = append(list, expected{c, code})
		}
	}
	for _, path := range []string{"", "a", "a/b", "//", "/a/", "/.", "/..", "/a//b", "/ ", "/a\x00", "/\x7f", wide, "/" + strings.Repeat("x/", 119) + "xx", strings.Repeat("/x", 121)} {
		row(impl.ErrPath, creating(path), mkdir(path), unlinking(path), rmdir(path), renaming(path, "/x"), renaming("/f", path), renaming("/", path), renaming(path, "/"), writing(path, -1, long), truncating(path, -1), appending(path, long),
			linking(path, "/x"), linking("/f", path), linking("/", path), linking(path, "/"), pointing(path, "/x"), pointing("/x", path), pointing("/", path), pointing("/f", path), pointing(path, "/"),
			opening(path), reading(path, -1, -1), statOf(path), lstatOf(path), listOf(path), readlink(path))
	}
	row(impl.ErrLong, creating(longName), mkdir("/no"+longName), unlinking(longName), rmdir("/f"+longName), renaming(longName, "a"), renaming("/f", longName), renaming("/", longName), writing(longName, -1, ""), linking(longName, ""), linking("/no", longName),
		pointing(longName, ""), pointing("/", longName), opening(longName), reading(longName, 0, 1), statOf("/l"+longName), lstatOf(longName), listOf(longName+"/"), readlink(longName))
	row(impl.ErrPath, renaming("a", longName), linking("a", longName), pointing("a", longName), creating("/."+longName))

	row(impl.ErrExists, creating("/"), mkdir("/"), pointing("/", "/x"), linking("/no", "/"), linking("/l/x", "/"), linking("/", "/"), linking("/a", "/"))
	row(impl.ErrExists, creating("/a"), creating("/f"), creating("/s"), creating("/l"), creating("/n"), creating("/s/g"), creating("/r/f"), mkdir("/e"), mkdir("/t"), mkdir("/d/n0"), creating("/d/n159"), pointing("/f", "/f"), pointing("/d/n1", "/"),
		linking("/f", "/f"), linking("/f", "/s"), linking("/d/n0", "/d/n1"), linking("/f", "/d/n1"), linking("/d/n0", "/e"), linking("/s", "/t"))
	row(impl.ErrNoEntry, creating("/no/x"), creating("/n/x"), mkdir("/a/no/x"), creating("/no/x/y"), pointing("/no/x", "/"), unlinking("/no"), unlinking("/n/x"), rmdir("/no"), rmdir("/s/no"), renaming("/no", "/x"), renaming("/no", "/f/x"), renaming("/no", "/no/x"), renaming("/f", "/no/x"), renaming("/a", "/n/x"),
		writing("/no", -1, long), writing("/n", 0, "x"), truncating("/n", -1), appending("/a/no", long), linking("/no", "/f/x"), linking("/no", "/f"), linking("/d/n0", "/no/x"), linking("/f", "/n/x"),
		opening("/n"), reading("/no", -1, 0), statOf("/n"), lstatOf("/no"), listOf("/n"), readlink("/no"), readlink("/n/x"), statOf("/e/x"), statOf(deepPath[2:]+"/x"))
	row(impl.ErrNotDir, creating("/f/x"), creating("/f/x/y"), mkdir("/t/x"), pointing("/a/g/x", "/"), unlinking("/f/x"), rmdir("/f/x/y"), rmdir("/f"), rmdir("/s"), rmdir("/l"), rmdir("/t"), renaming("/f/x", "/no/x"), renaming("/f/x/y", "/"+"l/x"), renaming("/e", "/f/x"), renaming("/f", "/t/x"),
		writing("/f/x", -1, ""), truncating("/t/x", -1), appending("/f/x", long), linking("/f/x", "/no/x"), linking("/f", "/f/x"), linking("/d/n0", "/f/x"), opening("/f/x"), reading("/f/x", -1, 0), statOf("/f/x"), lstatOf("/t/x"), listOf("/f"), listOf("/t"), listOf("/f/x"), readlink("/f/x"))
	row(impl.ErrLoop, creating("/l/x"), mkdir("/u/x"), pointing("/v/x", "/"), unlinking("/l/x"), rmdir("/v/x"), renaming("/l/x", "/no/x"), renaming("/f", "/l/x"), writing("/l", -1, ""), truncating("/u", -1), appending("/v", long), linking("/l/x", "/no/x"), linking("/f", "/u/x"), linking("/d/n0", "/l/x"),
		opening("/l"), reading("/u", -1, -1), statOf("/l"), statOf("/v"), lstatOf("/l/x"), listOf("/u"), readlink("/l/l"))

	row(impl.ErrTooBig, creating("/d/x"), mkdir("/d/x"), pointing("/d/x", "/"), linking("/f", "/d/x"), linking("/d/n0", "/d/x"), renaming("/f", "/d/x"), renaming("/a", "/d/x"))
	row(impl.ErrDepth, creating("/q/x"), mkdir("/q/x"), pointing("/q/x", "/"), linking("/f", "/q/x"), linking("/d/n0", "/q/x"), renaming("/f", "/q/x"), renaming("/a", "/q/x"), renaming("/e", "/q/x"), renaming("/d/n0", "/q/x"),
		renaming("/a", strings.Repeat("/p", 14)+"/x"), renaming("/a", strings.Repeat("/p", 15)+"/x"))
	row(impl.ErrLinks, linking("/d/n0", "/x"), linking("/d/n159", "/e/x"), linking("/d/n0", "/r/x"))
	row(impl.ErrIsDir, unlinking("/"), unlinking("/a"), unlinking("/e"), linking("/", "/x"), linking("/a", "/no/x"), linking("/a", "/f"), linking("/e", "/d/x"), linking("/e", "/q/x"), writing("/", 0, "x"), writing("/a", -1, long), writing("/s", 2561, ""), truncating("/r", -1), truncating("/e", 2561), appending("/a", long),
		opening("/"), opening("/s"), reading("/a", -1, -1), reading("/", 0, 0), renaming("/f", "/a"), renaming("/s", "/e"), renaming("/d/n0", "/p"))
	row(impl.ErrRoot, rmdir("/"), renaming("/", "/"), renaming("/", "/x"), renaming("/f", "/"), renaming("/no", "/"), renaming("/l/x", "/"), renaming("/", "/no/x"), renaming("/", "/l/x"))
	row(impl.ErrNotEmpty, rmdir("/a"), rmdir("/s/b"), rmdir("/p"), renaming("/e", "/a"), renaming("/a/b", "/a"), renaming("/a", strings.Repeat("/p", 14)))
	row(impl.ErrInside, renaming("/a", "/a/x"), renaming("/a", "/a/b/x"), renaming("/a", "/s/x"), renaming("/a", "/s/b/x"), renaming("/a", "/a/g"), renaming("/a", "/a/b"), renaming("/a", "/s/b/z"), renaming("/d", "/d/x"), renaming("/p", "/q/x"), renaming("/p", "/q/x"), renaming("/p/p", "/p/p/x"))
	row(impl.ErrNotDir, renaming("/a", "/f"), renaming("/e", "/s"), renaming("/a", "/d/n0"), renaming("/p", "/l"))

	row(impl.ErrRange, writing("/f", -1, ""), writing("/f", -1, long), writing("/f", math.MinInt64, "x"), writing("/t", -64, "x"), truncating("/f", -1), truncating("/t", math.MinInt64), reading("/f", -1, 0), reading("/f", 0, -1), reading("/f", math.MinInt64, math.MinInt64), reading("/f", math.MaxInt64, -1))
	row(impl.ErrTooBig, writing("/f", 0, long), writing("/f", 2560, "x"), writing("/f", 2561, ""), writing("/f", 2559, "xx"), writing("/f", math.MaxInt64, "x"), writing("/f", math.MaxInt64, ""), writing("/f", 64, long[64:]+"xx"), truncating("/f", 2561), truncating("/f", math.MaxInt64), appending("/f", long[69:]), appending("/t", long))
	row(impl.ErrNotLink, readlink("/"), readlink("/f"), readlink("/a"), readlink("/s/b"), readlink("/d/n0"))
	for _, kind := range []int64{0, 26, 27, -1, math.MinInt64, math.MaxInt64} {
		row(impl.ErrCall, impl.Call{Kind: kind}, impl.Call{Kind: kind, Path: "/f", To: "/x", Handle: 1, Size: 1, Data: "x"})
	}
	row(impl.ErrHandle, pwriting(1, -1, long), pwriting(0, 0, ""), ftruncating(1, -1), ftruncating(9, 2561), preading(1, -1, -1), preading(-1, 0, 1), fstatOf(1), fstatOf(math.MaxInt64), closing(1), closing(0), closing(-1), closing(math.MinInt64))
	return list
}

// Each error alone, and each pair of errors in the order in which they stand: room and credits come last.
func TestCallsRefused(t *testing.T) {
	t.Parallel()
	seen := map[int64]bool{}
	for name, d := range placeDisks() {
		s := checkExpected(t, name, d, nil, refusedCalls()...)
		if len(s.ops)+len(s.homes)+len(s.revokes) > 0 {
			t.Error(name, "something was changed")
		}
	}
	for _, e := range refusedCalls() {
		seen[e.code] = true
	}
	if len(seen) != 17 {
		t.Error(slices.Sorted(maps.Keys(seen)))
	}
}

// What is not refused otherwise: with room, without a free block or inode, with a limit of 4, and with both.
func TestCallsWithAndWithoutRoom(t *testing.T) {
	t.Parallel()
	const space, credit = impl.ErrNoSpace, impl.ErrCredit
	disks := placeDisks()
	order := []string{"room", "full", "a small log", "a small log, full"}
	for _, row := range []struct {
		call  impl.Call
		codes [4]int64
	}{
		{creating("/x"), [4]int64{0, space, 0, space}}, // the root's block has room: a block, two inodes, the map
		{mkdir("/s/x"), [4]int64{0, space, 0, space}},
		{creating("/e/x"), [4]int64{0, space, credit, space}},
		{pointing("/x", "/anything"), [4]int64{0, space, credit, space}},
		{pointing("/e/x", "/"), [4]int64{0, space, credit, space}},
		{linking("/f", "/x"), [4]int64{0, 0, 0, 0}},
		{linking("/s", "/x"), [4]int64{0, 0, 0, 0}},
		{linking("/f", "/e/x"), [4]int64{0, space, 0, space}},
		{linking("/l", "/r/e/x"), [4]int64{0, space, 0, space}},
		{writing("/f", 0, "x"), [4]int64{0, 0, 0, 0}},
		{writing("/f", 127, "x"), [4]int64{0, 0, 0, 0}},
		{writing("/t", 128, "x"), [4]int64{0, space, 0, space}},
		{writing("/f", 0, letters(192, 3)), [4]int64{0, space, credit, space}},
		{writing("/f", 64, letters(128, 3)), [4]int64{0, space, 0, space}},
		{writing("/f", 2560, ""), [4]int64{0, 0, 0, 0}},
		{writing("/f", 2559, "x"), [4]int64{0, space, 0, space}},
		{appending("/f", letters(58, 1)), [4]int64{0, 0, 0, 0}},
		{appending("/f", letters(59, 1)), [4]int64{0, space, 0, space}},
		{appending("/f", letters(2490, 1)), [4]int64{credit, space, credit, space}},
		{appending("/d/n0", letters(64, 1)), [4]int64{0, space, 0, space}},
		{truncating("/f", 2560), [4]int64{0, 0, 0, 0}},
		{truncating("/f", 69), [4]int64{0, 0, 0, 0}},
		{truncating("/f", 0), [4]int64{0, 0, 0, 0}},
		{unlinking("/t"), [4]int64{0, 0, credit, credit}},
		{unlinking("/a/g"), [4]int64{0, 0, credit, credit}},
		{unlinking("/a/b/c"), [4]int64{0, 0, 0, 0}},
		{unlinking("/d/n3"), [4]int64{0, 0, 0, 0}},
		{unlinking("/d/n159"), [4]int64{0, 0, 0, 0}},
		{rmdir("/e"), [4]int64{0, 0, credit, credit}}, // an entry's place, the block that is freed, two inodes, both maps
		{rmdir("/a/b/z"), [4]int64{0, 0, 0, 0}},
		{renaming("/f", "/x"), [4]int64{0, 0, 0, 0}},
		{renaming("/f", "/a/x"), [4]int64{0, 0, credit, credit}},
		{renaming("/f", "/e/x"), [4]int64{0, 0, credit, credit}}, // the root frees a block, so that one is free for e
		{renaming("/a/g", "/e/x"), [4]int64{0, space, credit, space}},
		{renaming("/a/b/z", "/e"), [4]int64{0, 0, credit, credit}},
		{renaming("/d/n0", "/d/x"), [4]int64{0, 0, 0, 0}},
		{renaming("/d/n0", "/d/n1"), [4]int64{0, 0, 0, 0}},
		{renaming("/d/n0", "/d/n8"), [4]int64{0, 0, credit, credit}}, // three blocks of d, its inode, and that of what was n8
		{renaming("/e", "/s/b/z"), [4]int64{0, 0, credit, credit}},
		{renaming("/a", "/a"), [4]int64{0, 0, 0, 0}},
		{renaming("/l", "/x"), [4]int64{0, 0, 0, 0}},
		{renaming("/d/n0", "/p"+"/p"), [4]int64{impl.ErrIsDir, impl.ErrIsDir, impl.ErrIsDir, impl.ErrIsDir}},
		{renaming("/e", strings.Repeat("/p", 15)+"/x"), [4]int64{0, 0, credit, credit}},
		{renaming("/a", strings.Repeat("/p", 13)+"/x"), [4]int64{0, 0, credit, credit}},
		{opening("/t"), [4]int64{0, 0, 0, 0}},
	} {
		for i, name := range order {
			checkExpected(t, name, disks[name], nil, expected{row.call, row.codes[i]})
		}
	}
}

// lookRow is a call that looks, and what it is to answer.
type lookRow struct {
	call impl.Call
	want impl.Answer
}

// lookRows are about files, directories and links of that tree with room, by paths through all sorts of links.
func lookRows() []lookRow {
	file, g := placeItems()[3].data, placeItems()[48].data
	return []lookRow{
		{statOf("/"), impl.Answer{Stat: impl.Stat{Kind: 2, Links: 1, Size: 13 * 16, Blocks: 4}}},
		{lstatOf("/"), impl.Answer{Stat: impl.Stat{Kind: 2, Links: 1, Size: 13 * 16, Blocks: 4}}},
		{statOf("/r"), impl.Answer{Stat: impl.Stat{Kind: 2, Links: 1, Size: 13 * 16, Blocks: 4}}},
		{lstatOf("/r"), impl.Answer{Stat: impl.Stat{Kind: 3, Links: 1, Size: 1, Blocks: 1}}},
		{statOf("/r/r/r/r/r/r/r/r"), impl.Answer{Stat: impl.Stat{Kind: 2, Links: 1, Size: 13 * 16, Blocks: 4}}},
		{statOf("/r/r/r/r/r/r/r/r/r"), impl.Answer{Code: impl.ErrLoop}},
		{lstatOf("/r/r/r/r/r/r/r/r/r"), impl.Answer{Stat: impl.Stat{Kind: 3, Links: 1, Size: 1, Blocks: 1}}},
		{lstatOf("/r/r/r/r/r/r/r/r/r/r"), impl.Answer{Code: impl.ErrLoop}},
		{statOf("/r/r/r/r/r/r/r/t"), impl.Answer{Stat: impl.Stat{Kind: 1, Links: 1, Size: 70, Blocks: 2}}},
		{statOf("/d"), impl.Answer{Stat: impl.Stat{Kind: 2, Links: 1, Size: 2560, Blocks: 41}}},
		{statOf("/d/n77"), impl.Answer{Stat: impl.Stat{Kind: 1, Links: 8}}},
		{statOf("/s/b/c"), impl.Answer{Stat: impl.Stat{Kind: 1, Links: 1}}},
		{lstatOf("/s"), impl.Answer{Stat: impl.Stat{Kind: 3, Links: 1, Size: 2, Blocks: 1}}},
		{lstatOf("/l"), impl.Answer{Stat: impl.Stat{Kind: 3, Links: 1, Size: 2, Blocks: 1}}},
		{lstatOf("/n"), impl.Answer{Stat: impl.Stat{Kind: 3, Links: 1, Size: 8, Blocks: 1}}},
		{lstatOf("/q"), impl.Answer{Stat: impl.Stat{Kind: 3, Links: 1, Size: 32, Blocks: 1}}},
		{statOf("/q"), impl.Answer{Stat: impl.Stat{Kind: 2, Links: 1}}},
		{statOf(deepPath), impl.Answer{Stat: impl.Stat{Kind: 2, Links: 1}}},
		{statOf(deepPath + "/p"), impl.Answer{Code: impl.ErrPath}},
		{statOf("/q/p"), impl.Answer{Code: impl.ErrNoEntry}},
		{listOf("/"), impl.Answer{Names: []string{"a", "d", "e", "f", "l", "n", "p", "q", "r", "s", "t", "u", "v"}}},
		{listOf("/s"), impl.Answer{Names: []string{"b", "g"}}},
		{listOf("/r/s/b"), impl.Answer{Names: []string{"c", "z"}}},
		{listOf("/e"), impl.Answer{}},
		{listOf("/q"), impl.Answer{}},
		{readlink("/s"), impl.Answer{Data: "/a"}},
		{readlink("/l"), impl.Answer{Data: "/l"}},
		{readlink("/r/r/n"), impl.Answer{Data: "/nothing"}},
		{readlink("/q"), impl.Answer{Data: deepPath}},
		{reading("/f", 0, 70), impl.Answer{Data: file}},
		{reading("/t", 0, math.MaxInt64), impl.Answer{Data: file}},
		{reading("/f", 69, math.MaxInt64), impl.Answer{Data: file[69:]}},
		{reading("/f", 63, 2), impl.Answer{Data: file[63:65]}},
		{reading("/f", 70, 1), impl.Answer{}},
		{reading("/f", 71, 1), impl.Answer{}},
		{reading("/f", math.MaxInt64, math.MaxInt64), impl.Answer{}},
		{reading("/f", 3, 0), impl.Answer{}},
		{reading("/s/g", 1, 5), impl.Answer{Data: g[1:6]}},
		{spaceLeft(), impl.Answer{Stat: impl.Stat{Size: 4, Blocks: 40}}},
		{opening("/s/g"), impl.Answer{Handle: 1}},
		{syncing(), impl.Answer{}},
		{checkpointing(), impl.Answer{}},
	}
}

// Calls that look change nothing, and have no credits.
func TestCallsThatLook(t *testing.T) {
	t.Parallel()
	d := placeDisk(128, 40, 4)
	var calls []impl.Call
	for _, row := range append(lookRows(), lookRow{logNow(), impl.Answer{State: impl.TxnState{Seq: 1, Head: 1}}}) {
		r := impl.Run(d, []impl.Call{row.call}, -1)
		if len(r.Answers) != 1 || value(r.Answers[0]) != value(row.want) || r.Ops != 0 {
			t.Errorf("%+v answers %+v, not %+v", row.call, r.Answers, row.want)
		}
		if n := impl.Credits(d, row.call); n != 0 {
			t.Errorf("%+v has %d credits", row.call, n)
		}
		calls = append(calls, row.call)
	}
	checkSystem(t, "all in a row", d, calls)
}

// fieldPairs are calls of all kinds with all their fields, and with those alone that they use. Handle 1 is to be open.
func fieldPairs() map[int64][2]impl.Call {
	used := map[int64]string{
		1: "P", 2: "P", 3: "P", 4: "P", 5: "PT", 6: "POD", 7: "PS", 8: "PD", 9: "PT", 10: "PT", 11: "HOD", 12: "HS", 13: "H", 14: "P", 15: "HOS", 16: "H", 17: "POS", 18: "P", 19: "P", 20: "P", 21: "P",
	}
	pairs := map[int64][2]impl.Call{}
	for kind := int64(-1); kind <= 27; kind++ {
		full := impl.Call{Kind: kind, Path: "/s/g", To: "/s/x", Handle: 1, Offset: 3, Size: 7, Data: "data"}
		switch kind {
		case 1, 2, 10:
			full.Path = "/s/x"
		case 4:
			full.Path = "/e"
		case 20:
			full.Path = "/s"
		case 21:
			full.Path = "/q"
		}
		bare := full
		for letter, clear := range map[string]func(){
			"P": func() { bare.Path = "" }, "T": func() { bare.To = "" }, "H": func() { bare.Handle = 0 }, "O": func() { bare.Offset = 0 }, "S": func() { bare.Size = 0 }, "D": func() { bare.Data = "" },
		} {
			if !strings.Contains(used[kind], letter) {
				clear()
			}
		}
		pairs[kind] = [2]impl.Call{full, bare}
	}
	return pairs
}

// Fields that a call does not use play no part, and no answer has more than its call gives it.
func TestCallsUseTheirFieldsAlone(t *testing.T) {
	d := placeDisk(128, 40, 4)
	for kind, pair := range fieldPairs() {
		a := impl.Run(d, []impl.Call{opening("/f"), pair[0], syncing(), listOf("/a")}, -1)
		b := impl.Run(d, []impl.Call{opening("/f"), pair[1], syncing(), listOf("/a")}, -1)
		if value(a) != value(b) || (a.Answers[1].Code != 0) != (kind < 1 || kind > 25) {
			t.Errorf("kind %d: %+v and %+v", kind, a.Answers, b.Answers)
		}
		if impl.Credits(d, pair[0]) != impl.Credits(d, pair[1]) {
			t.Error("kind", kind, "has other credits")
		}
	}
}
