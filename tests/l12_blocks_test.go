package tests

import (
	"fmt"
	"slices"
	"strings"
	"testing"

	"loop.example/s01525/impl"
)

// written are the homes and the revokes of the last transaction in the log behind some calls and a sync.
func written(t *testing.T, d impl.Disk, calls ...impl.Call) (homes, revokes []int64) {
	t.Helper()
	r := impl.Run(d, append(slices.Clip(calls), syncing()), -1)
	for i, a := range r.Answers {
		if a.Code != 0 {
			t.Fatal("call", i, "has the code", a.Code)
		}
	}
	txns := impl.ScanLog(r.Disk).Txns
	last := txns[len(txns)-1]
	for _, h := range last.Homes {
		homes = append(homes, h.Block)
	}
	return homes, last.Revokes
}

// Which blocks have copies and which revokes behind each step: the maps are blocks 42 and 43, the table 44 to 47, the data 48 to 59.
func TestStepsInBlocks(t *testing.T) {
	d := newDisk(60, 40, 8)
	var ahead []impl.Call
	for i, c := range []struct {
		name           string
		calls          []impl.Call
		homes, revokes []int64
	}{
		{"the first entry", []impl.Call{creating("/f")}, []int64{42, 43, 44, 48}, nil},
		{"four blocks", []impl.Call{writing("/f", 0, letters(200, 1))}, []int64{43, 44, 49, 50, 51, 52}, nil},
		{"one byte", []impl.Call{writing("/f", 70, "!")}, []int64{50}, nil},
		{"the same again, and another", []impl.Call{writing("/f", 70, "!"), writing("/f", 130, "!")}, []int64{51}, nil},
		{"three are freed", []impl.Call{truncating("/f", 64)}, []int64{43, 44}, []int64{50, 51, 52}},
		{"a pointer block ahead of its first", []impl.Call{writing("/f", 600, "x")}, []int64{43, 44, 50, 51}, nil},
		{"another in the list", []impl.Call{writing("/f", 520, "y")}, []int64{43, 50, 52}, nil}, // the record is as it was
		{"a second file", []impl.Call{creating("/g")}, []int64{42, 44, 45, 48}, nil},
		{"behind those of the first", []impl.Call{writing("/g", 0, "g")}, []int64{43, 45, 53}, nil},
		{"the list and one of its two", []impl.Call{truncating("/f", 600)}, []int64{44, 51}, nil}, // the byte is cut off, its block stays
		{"one of the list", []impl.Call{truncating("/f", 530)}, []int64{43, 44, 50}, []int64{51}},
		{"the last of the list", []impl.Call{truncating("/f", 512)}, []int64{43, 44}, []int64{50, 52}},
		{"taken and freed", []impl.Call{writing("/f", 100, "x"), truncating("/f", 64)}, []int64{43, 44}, []int64{50}}, // the maps are as they were, and have copies still
		{"freed and taken", []impl.Call{truncating("/f", 0), writing("/g", 64, "x")}, []int64{43, 44, 45, 49}, nil},
		{"freed, taken and freed", []impl.Call{writing("/f", 0, "f"), truncating("/f", 0)}, []int64{43, 44}, []int64{50}},
		{"an inode without blocks", []impl.Call{unlinking("/f")}, []int64{42, 44, 48}, nil},
		{"an inode with two, and the root's", []impl.Call{unlinking("/g")}, []int64{42, 43, 44, 45}, []int64{48, 49, 53}},
		{"all anew", []impl.Call{mkdir("/a"), mkdir("/a/b")}, []int64{42, 43, 44, 45, 48, 49}, nil},
		{"a link and its directory", []impl.Call{pointing("/a/b/s", "/a")}, []int64{42, 43, 45, 50, 51}, nil},
		{"a name more", []impl.Call{linking("/a/b/s", "/t")}, []int64{44, 45, 48}, nil},
		{"a name less", []impl.Call{unlinking("/a/b/s")}, []int64{43, 45}, []int64{50}},
		{"within one directory", []impl.Call{renaming("/t", "/u")}, []int64{48}, nil},
		{"with the same name, into the block that is freed", []impl.Call{creating("/a/b/x"), renaming("/a/b/x", "/a/b/y")}, []int64{42, 43, 45, 46, 50}, nil},
	} {
		// Behind a checkpoint no transaction but the last one is in the log.
		homes, revokes := written(t, d, append(append(slices.Clip(ahead), checkpointing()), c.calls...)...)
		if !slices.Equal(homes, c.homes) || !slices.Equal(revokes, c.revokes) {
			t.Errorf("step %d, %s: homes %v, revokes %v, not %v, %v", i, c.name, homes, revokes, c.homes, c.revokes)
		}
		ahead = append(ahead, c.calls...)
		s := checkSystem(t, c.name, d, append(slices.Clip(ahead), logNow(), checkpointing()))
		if len(s.homes)+len(s.revokes) != 0 {
			t.Error("something is running")
		}
	}
}

// A block that goes from one directory to another is not written if its bytes stay the same.
func TestBlockFromOneToAnother(t *testing.T) {
	d := newDisk(60, 40, 8)
	base := []impl.Call{mkdir("/a"), mkdir("/b"), creating("/a/f"), checkpointing()}
	for _, c := range []struct {
		call  impl.Call
		homes []int64
	}{
		{renaming("/a/f", "/b/f"), []int64{44, 45}},
		{renaming("/a/f", "/b/g"), []int64{44, 45, 49}},
	} {
		homes, revokes := written(t, d, append(slices.Clip(base), c.call)...)
		if !slices.Equal(homes, c.homes) || len(revokes) != 0 {
			t.Errorf("%+v: homes %v, revokes %v", c.call, homes, revokes)
		}
		checkSystemStopped(t, "from one to another", d, append(slices.Clip(base), c.call, checkpointing(), listOf("/b")))
	}
	// With a lesser block free it is that one which is taken, and the other one is revoked.
	less := append([]impl.Call{mkdir("/a"), creating("/x"), mkdir("/b"), writing("/x", 0, "x"), creating("/a/f"), truncating("/x", 0)}, checkpointing(), renaming("/a/f", "/b/f"))
	homes, revokes := written(t, d, less...)
	if !slices.Equal(homes, []int64{43, 44, 45, 49}) || !slices.Equal(revokes, []int64{50}) {
		t.Error(homes, revokes)
	}
}

// pointersOf are the numbers of an inode on the disk: its pointer block, and the block of each index.
func pointersOf(t *testing.T, d impl.Disk, number int64) (int64, []int64) {
	t.Helper()
	v, ok := plainVolumeOf(d.Durable)
	if !ok || len(plainCheck(d)) > 0 {
		t.Fatal("the disk is not whole")
	}
	i := v.inodes[number]
	return i.Indirect, slices.Concat(i.Direct, v.list(i))
}

// The least inode and the least blocks are taken, by rising number of inode and rising index, a pointer block just ahead of its first.
func TestLeastAreTaken(t *testing.T) {
	base := []impl.Call{creating("/1"), creating("/2"), mkdir("/3"), creating("/4"), writing("/1", 0, letters(64, 1)), writing("/2", 0, letters(128, 2)), writing("/4", 0, letters(64, 3))}
	d := grown(t, newDisk(200, 128, 8), append(base, unlinking("/1"), unlinking("/2"))...)
	// Inodes 2 and 3 are free; taken of the data are the first block, the root's, and the fifth, 4's.
	p, _ := plainPlaces(impl.Geometry{Blocks: 200, Log: 128, Inodes: 8})
	first := p.Data
	v, _ := plainVolumeOf(d.Durable)
	if v.inodes[2].Kind != 0 || v.inodes[3].Kind != 0 || v.inodes[4].Kind != 2 || v.inodes[5].Direct[0] != first+4 || v.inodes[1].Direct[0] != first {
		t.Fatalf("%+v", v.inodes)
	}
	// A new link gets inode 2, which is ahead of its directory 4: its blocks come first.
	s := grown(t, d, pointing("/3/s", "/"+strings.Repeat("abcdefg/", 9)+"x"))
	if _, link := pointersOf(t, s, 2); !slices.Equal(link[:3], []int64{first + 1, first + 2, 0}) {
		t.Error(link)
	}
	if _, dir := pointersOf(t, s, 4); !slices.Equal(dir[:2], []int64{first + 3, 0}) {
		t.Error(dir)
	}
	// The root is ahead of all: with a fifth entry its second block comes first.
	s = grown(t, d, creating("/5"), creating("/6"), pointing("/7", "/x"))
	if _, root := pointersOf(t, s, 1); !slices.Equal(root[:3], []int64{first, first + 1, 0}) {
		t.Error(root)
	}
	if _, link := pointersOf(t, s, 6); !slices.Equal(link[:2], []int64{first + 2, 0}) {
		t.Error(link)
	}
	// A file with a list: the three that are free, the list, and what is behind it.
	s = grown(t, d, writing("/4", 320, letters(64*7, 5)))
	list, file := pointersOf(t, s, 5)
	if list != first+5 || !slices.Equal(file[:13], []int64{first + 4, 0, 0, 0, 0, first + 1, first + 2, first + 3, first + 6, first + 7, first + 8, first + 9, 0}) {
		t.Error(list, file)
	}
	// Blocks that a file has stay where they are, when holes between them are filled and when it is cut.
	again := grown(t, s, writing("/4", 0, letters(800, 6)), truncating("/4", 650))
	list2, file2 := pointersOf(t, again, 5)
	if list2 != list || !slices.Equal(file2[5:11], file[5:11]) || file2[0] != file[0] || file2[11] != 0 || slices.Contains(file2[:11], 0) {
		t.Error(list2, file2)
	}
	nodes := impl.Tree(d, []impl.Call{creating("/5"), creating("/6"), unlinking("/5"), mkdir("/8"), pointing("/9", "/x")}).Nodes
	for path, inode := range map[string]int64{"/6": 3, "/8": 2, "/9": 6} {
		if at := findNode(nodes, path); at < 0 || nodes[at].Inode != inode {
			t.Error(path, nodes)
		}
	}
}

// Bytes behind the end of a directory, which no rule asks for, become 0 when its entries change; and count as changed then.
func TestBytesBehindADirectory(t *testing.T) {
	g := impl.Geometry{Blocks: 80, Log: 40, Inodes: 8}
	entries := []impl.Entry{{Inode: 2, Name: "a"}, {Inode: 2, Name: "b"}, {Inode: 2, Name: "c"}, {Inode: 2, Name: "d"}, {Inode: 3, Name: "e"}}
	m := laid(g, map[int64]item{1: dirOf(entries...), 2: sizedFile(4, 10), 3: dirOf(impl.Entry{Inode: 4, Name: "x"}), 4: sizedFile(1, 5)})
	m.put(m.blockAt(1, 1), 16, drawn(48, 1)...)
	m.put(m.blockAt(3, 0), 16, drawn(48, 2)...)
	if len(plainCheck(m.disk)) != 0 {
		t.Fatal("the disk is whole")
	}
	for call, changed := range map[impl.Call][2]bool{
		creating("/n"):          {true, false},
		creating("/e/n"):        {false, true},
		renaming("/e", "/f"):    {true, false},
		linking("/a", "/e/y"):   {false, true},
		writing("/e/x", 0, "!"): {false, false},
		renaming("/a", "/e/x"):  {true, true},
	} {
		s := checkSystemStopped(t, "garbage", m.disk, []impl.Call{call, checkpointing(), listOf("/"), listOf("/e")})
		if s.told[0].Code != 0 {
			t.Errorf("%+v has the code %d", call, s.told[0].Code)
		}
		d := impl.Run(m.disk, []impl.Call{call, checkpointing()}, -1).Disk
		for i, at := range []int64{m.blockAt(1, 1)*64 + 32, m.blockAt(3, 0)*64 + 32} {
			is := d.Durable[at : at+32]
			if _, root := pointersOf(t, d, 1); i == 0 && root[1] == 0 {
				continue
			}
			if clean := slices.Equal(is, make([]byte, 32)); clean != changed[i] {
				t.Errorf("%+v: directory %d, clean behind its end: %v", call, i, clean)
			}
		}
	}
}

// lastInode takes and frees the last of four inodes.
func lastInode() []expected {
	return []expected{
		{creating("/a"), 0}, {mkdir("/b"), 0}, {pointing("/c", "/a"), 0}, {creating("/d"), impl.ErrNoSpace}, {mkdir("/d"), impl.ErrNoSpace}, {pointing("/d", "/a"), impl.ErrNoSpace}, {spaceLeft(), 0}, {linking("/a", "/d"), 0}, {writing("/a", 0, letters(300, 1)), 0},
		{renaming("/d", "/c"), 0}, {mkdir("/e"), 0}, {creating("/f"), impl.ErrNoSpace}, {rmdir("/b"), 0}, {creating("/f"), 0}, {opening("/f"), 0}, {unlinking("/f"), 0}, {creating("/g"), impl.ErrNoSpace}, {closing(1), 0}, {creating("/g"), 0}, {spaceLeft(), 0},
	}
}

// lastBlockTree leaves one of the 12 blocks of {60 40 8}: the root has one, f 8, d 1, g 1.
func lastBlockTree() []impl.Call {
	calls := []impl.Call{creating("/f"), mkdir("/d"), creating("/g"), creating("/d/x"), writing("/g", 0, "g")}
	for i := range int64(8) {
		calls = append(calls, writing("/f", 64*i, letters(64, byte(i))))
	}
	return calls
}

// takeLastBlock leaves none.
func takeLastBlock() impl.Call {
	return writing("/g", 64, "g")
}

// lastBlockRow is a call, and its code when one block is left, and when none is.
type lastBlockRow struct {
	call      impl.Call
	one, none int64
}

func lastBlockRows() []lastBlockRow {
	return []lastBlockRow{
		{writing("/f", 512, "x"), impl.ErrNoSpace, impl.ErrNoSpace}, // two: a pointer block too
		{writing("/f", 511, "x"), 0, 0},
		{appending("/f", "x"), impl.ErrNoSpace, impl.ErrNoSpace},
		{writing("/g", 128, "x"), 0, impl.ErrNoSpace},
		{writing("/g", 127, "xx"), impl.ErrNoSpace, impl.ErrNoSpace},
		{appending("/g", letters(63, 1)), 0, 0},
		{appending("/g", letters(64, 1)), 0, impl.ErrNoSpace},
		{mkdir("/e"), 0, 0},
		{pointing("/e", "/f"), 0, impl.ErrNoSpace},
		{pointing("/e", "/"+strings.Repeat("abcdefg/", 8)+"x"), impl.ErrNoSpace, impl.ErrNoSpace},
		{linking("/f", "/e"), 0, 0},
		{linking("/f", "/d/y"), 0, 0},
		{truncating("/g", 2560), 0, 0},
		{truncating("/f", 511), 0, 0},
		{unlinking("/g"), 0, 0},
		{unlinking("/d/x"), 0, 0},
		{renaming("/d/x", "/y"), 0, 0},
		{renaming("/g", "/d/y"), 0, 0},
		{renaming("/g", "/f"), impl.ErrCredit, impl.ErrCredit},
	}
}

// fullAndOpen are calls when no block is left, and g has no name, but handle 1.
func fullAndOpen() []expected {
	return []expected{
		{pwriting(1, 128, "x"), impl.ErrNoSpace}, {pwriting(1, 100, "x"), 0}, {ftruncating(1, 2000), 0}, {ftruncating(1, 64), 0}, {pwriting(1, 128, "x"), 0}, {pwriting(1, 64, "x"), impl.ErrNoSpace}, {closing(1), 0}, {spaceLeft(), 0},
	}
}

// The last inode and the last block: one more is refused, and whatever frees something makes room.
func TestLastInodeAndBlock(t *testing.T) {
	checkExpected(t, "inodes", newDisk(60, 40, 4), nil, lastInode()...)
	one := grown(t, newDisk(60, 40, 8), lastBlockTree()...)
	none := grown(t, one, takeLastBlock())
	for _, c := range lastBlockRows() {
		checkExpected(t, "one block is left", one, nil, expected{c.call, c.one}, expected{spaceLeft(), 0})
		checkExpected(t, "none is left", none, nil, expected{c.call, c.none}, expected{spaceLeft(), 0})
	}
	if space := impl.Run(none, []impl.Call{spaceLeft()}, -1).Answers[0].Stat; space.Blocks != 0 || space.Size != 3 {
		t.Error(space)
	}
	checkExpected(t, "open", none, []impl.Call{opening("/g"), unlinking("/g")}, fullAndOpen()...)
}

// A move frees in the same step what it takes: a directory's last block, for another's first; not if a pointer block is wanted too.
func TestSpaceFreedInTheSameStep(t *testing.T) {
	for _, spare := range []int64{0, 1, 2} {
		for _, many := range []int{0, 3, 4, 31, 32, 33, 36} {
			items := map[int64]item{1: dirOf(impl.Entry{Inode: 2, Name: "a"}, impl.Entry{Inode: 3, Name: "b"}), 2: dirOf(impl.Entry{Inode: 4, Name: "x"}), 4: fileOf(1, "")}
			entries := manyEntries(many)
			for i := range entries {
				entries[i].Inode = 5 + int64(i/8)
				items[entries[i].Inode] = fileOf(int64(min(8, many-i/8*8)), "")
			}
			items[3] = dirOf(entries...)
			used := int64(2 + (many+3)/4)
			if many > 32 {
				used++
			}
			g := impl.Geometry{Blocks: 2 + 64 + 2 + 5 + used + spare, Log: 64, Inodes: 10}
			d := laid(g, items).disk
			code := int64(0)
			if many == 32 && spare == 0 {
				code = impl.ErrNoSpace
			}
			name := fmt.Sprint(spare, " spare, ", many, " entries")
			checkExpected(t, name, d, nil, expected{renaming("/a/x", "/b/x"), code}, expected{spaceLeft(), 0}, expected{checkpointing(), 0}, expected{listOf("/b"), 0})
		}
	}
}
