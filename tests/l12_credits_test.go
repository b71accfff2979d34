package tests

import (
	"fmt"
	"strings"
	"testing"

	"loop.example/s01525/impl"
)

// creditItems are: a root of nine entries (three blocks), files with and without a pointer block, directories of 0, 4, 5, 32 and 33 entries.
func creditItems() map[int64]item {
	e := func(inode int64, name string) impl.Entry { return impl.Entry{Inode: inode, Name: name} }
	items := map[int64]item{
		1:  dirOf(e(2, "a"), e(3, "f"), e(4, "g"), e(5, "d"), e(7, "l"), e(8, "e"), e(9, "k"), e(11, "w"), e(16, "x")),
		2:  dirOf(e(21, "h")),
		3:  sizedFile(1, 70),
		4:  sizedFile(1, 600),
		5:  dirOf(e(6, "n0"), e(6, "n1"), e(6, "n2"), e(6, "n3"), e(6, "n4")),
		6:  sizedFile(5, 10),
		7:  linkTo(1, "/f"),
		8:  dirOf(),
		9:  dirOf(e(10, "n0"), e(10, "n1"), e(10, "n2"), e(10, "n3")),
		10: sizedFile(4, 0),
		21: sizedFile(2, 20),
	}
	wide := manyEntries(33)
	for i := range wide {
		wide[i].Inode = 12 + int64(i/8)
		items[wide[i].Inode] = sizedFile(8, 0)
	}
	items[11] = dirOf(wide[:32]...)
	for i := range wide {
		wide[i].Inode = 17 + int64(i/8)
		items[wide[i].Inode] = sizedFile(8, 0)
	}
	items[16] = dirOf(wide...)
	items[21] = sizedFile(2, 20)
	return items
}

// creditRows are calls with their credits: so many, and so many times the blocks of the map of blocks.
func creditRows() []struct {
	call       impl.Call
	base, maps int64
} {
	type row = struct {
		call       impl.Call
		base, maps int64
	}
	path := "/" + strings.Repeat("abcdefg/", 8) + "x"
	return []row{
		{creating("/n"), 1 + 2 + 1, 0}, // a block of the root; two inodes; the map of inodes
		{mkdir("/n"), 1 + 2 + 1, 0},
		{creating("/e/n"), 1 + 2 + 1, 1}, // a new block of e
		{mkdir("/k/n"), 1 + 2 + 1, 1},    // a second one
		{creating("/d/n"), 1 + 2 + 1, 0},
		{creating("/w/n"), 1 + 1 + 2 + 1, 1},     // the ninth block, and a pointer block
		{creating("/x/n"), 1 + 2 + 1, 0},         // the ninth block is there
		{pointing("/e/n", "/x"), 2 + 2 + 1, 1},   // a new block of e, one of the link
		{pointing("/n", path), 1 + 2 + 2 + 1, 1}, // two of the link
		{linking("/f", "/n"), 1 + 2, 0},
		{linking("/l", "/e/n"), 1 + 2, 1},
		{linking("/f", "/w/n"), 1 + 1 + 2, 1},
		{unlinking("/w/n31"), 1 + 2, 0},      // names are left
		{unlinking("/x/n32"), 2 + 2, 1},      // the ninth block and the pointer block are freed
		{unlinking("/x/n0"), 1 + 2 + 2, 1},   // and the last entry comes to the first block
		{unlinking("/f"), 1 + 2 + 1 + 3, 1},  // freed: one of the root, two of f
		{unlinking("/g"), 1 + 2 + 1 + 12, 1}, // one of the root, ten of g and its pointer block
		{unlinking("/l"), 1 + 2 + 1 + 2, 1},
		{unlinking("/d/n4"), 2 + 1, 1}, // d's second block is freed
		{rmdir("/e"), 1 + 2 + 1 + 1, 1},
		{writing("/f", 0, "x"), 1, 0},
		{writing("/f", 0, "some"), 0, 0}, // the bytes that are there
		{writing("/f", 70, ""), 0, 0},
		{writing("/f", 0, "some"+letters(60, 1)), 1, 0},
		{appending("/f", "zz"), 1 + 1, 0},
		{appending("/f", letters(58, 1)), 1 + 1, 0},
		{appending("/f", letters(59, 1)), 2 + 1, 1},
		{writing("/f", 512, "x"), 1 + 1 + 1, 1}, // a pointer block
		{writing("/f", 2559, "x"), 1 + 1 + 1, 1},
		{writing("/f", 511, "xx"), 2 + 1 + 1, 1},
		{writing("/f", 200, "\x00"), 1 + 1, 1}, // a new block, though its bytes are read as they were
		{writing("/f", 2000, "\x00"), 1 + 1 + 1, 1},
		{writing("/g", 640, "x"), 1 + 1 + 1, 1}, // the pointer block is changed
		{writing("/g", 599, "x"), 1, 0},
		{writing("/g", 0, letters(2560, 3)), 40 + 1 + 1, 1},
		{writing("/f", 0, letters(512, 3)), 8 + 1, 1},
		{writing("/f", 1, "\x00"), 1, 0},
		{truncating("/f", 70), 0, 0},
		{truncating("/f", 2560), 1, 0},
		{truncating("/f", 69), 1 + 1, 0}, // a byte behind the end becomes 0
		{truncating("/f", 64), 1 + 1, 1}, // a block is freed
		{truncating("/f", 10), 1 + 1 + 1, 1},
		{truncating("/f", 0), 2 + 1, 1},
		{truncating("/g", 576), 1 + 1 + 1, 1}, // a block is freed, the pointer block is changed
		{truncating("/g", 512), 3 + 1, 1},     // two, and the pointer block
		{truncating("/g", 100), 1 + 9 + 1, 1},
		{truncating("/g", 0), 11 + 1, 1},
		{renaming("/f", "/n"), 2, 0}, // two blocks of the root
		{renaming("/x", "/n"), 1, 0}, // the last entry
		{renaming("/f", "/f"), 0, 0},
		{renaming("/d/n0", "/d/n1"), 0, 0},
		{renaming("/f", "/e/n"), 1 + 1 + 1 + 2, 1}, // the root has a block less, e one more
		{renaming("/a", "/e"), 2 + 1 + 2 + 1, 1},   // two blocks of the root, one of it freed; e is gone
		{renaming("/f", "/g"), 2 + 1 + 11 + 2 + 1, 1},
		{renaming("/f", "/d/n0"), 1 + 1 + 2 + 2, 1}, // the root: a block changed, one freed; d: both are changed; the root's inode, and that of what was n0
		{impl.Call{Kind: impl.CallClose, Handle: 1}, 0, 0},
		{pwriting(1, 0, "x"), 0, 0},
		{syncing(), 0, 0},
		{creating("/f"), 0, 0},
		{creating("/no/n"), 0, 0},
		{writing("/f", -1, "x"), 0, 0},
		{impl.Call{Kind: 26, Path: "/n"}, 0, 0},
	}
}

// Each of the six sums, with maps of one, two and four blocks: as many as the limit are taken, one more is not.
func TestCreditsOfCalls(t *testing.T) {
	t.Parallel()
	exact := 0
	for _, blocks := range []int64{512, 513, 2048} {
		mapBlocks := (blocks + 511) / 512
		for i, row := range creditRows() {
			want := row.base + row.maps*mapBlocks
			for _, log := range []int64{16, 4*want - 1, 4 * want, 4*want + 3, 300} {
				if log < 16 {
					continue
				}
				d := laid(impl.Geometry{Blocks: blocks, Log: log, Inodes: 30}, creditItems()).disk
				name := fmt.Sprint(blocks, " blocks, a log of ", log, ", row ", i)
				if got := impl.Credits(d, row.call); got != want {
					t.Errorf("%s: %d credits, not %d", name, got, want)
				}
				code := impl.Run(d, []impl.Call{row.call}, -1).Answers[0].Code
				if want > 0 && (code == impl.ErrCredit) != (want > log/4) || want > 0 && code != 0 && code != impl.ErrCredit {
					t.Errorf("%s: %+v of %d credits has the code %d", name, row.call, want, code)
				}
				if log == 4*want-1 {
					exact++
					checkSystem(t, name, d, []impl.Call{row.call, logNow()})
				}
				if log == 4*want {
					s := checkSystem(t, name, d, []impl.Call{row.call, logNow(), row.call, syncing()})
					if s.told[1].State.Running > want || s.credits[0] != want {
						t.Errorf("%s: %d blocks for %d credits", name, s.told[1].State.Running, want)
					}
				}
			}
		}
	}
	if exact < 60 {
		t.Error(exact)
	}
}

// Calls that are refused otherwise have no credits; those that are refused for their credits have them.
func TestCreditsOfRefusedCalls(t *testing.T) {
	for name, d := range placeDisks() {
		if name == "room" || name == "a small log, full" {
			for _, e := range refusedCalls() {
				if got := impl.Credits(d, e.call); got != 0 {
					t.Errorf("%s: %+v has the code %d, and %d credits", name, e.call, e.code, got)
				}
			}
		}
	}
	full := placeDisk(16, 0, 0)
	for _, c := range []impl.Call{creating("/x"), creating("/e/x"), writing("/f", 128, "x"), renaming("/a/g", "/e/x"), pointing("/x", "/y")} {
		if got := impl.Credits(full, c); got != 0 {
			t.Errorf("%+v has no space, and %d credits", c, got)
		}
	}
	if got := impl.Credits(placeDisk(16, 40, 4), renaming("/a/g", "/e/x")); got != 5 {
		t.Error("more than the limit:", got) // a's block is changed, e's is new; two inodes; the map of blocks
	}
}

// Credits are those of the mounted disk, when what has no name was freed: that leaves an inode and a block more.
func TestCreditsBehindTheMount(t *testing.T) {
	items := map[int64]item{1: dirOf(impl.Entry{Inode: 3, Name: "f"}), 2: sizedFile(0, 64), 3: fileOf(1, "")}
	g := impl.Geometry{Blocks: 29, Log: 20, Inodes: 3}
	m := laid(g, items)
	if len(m.free) != 1 {
		t.Fatal(len(m.free))
	}
	for call, want := range map[impl.Call]int64{creating("/n"): 4, writing("/f", 0, letters(128, 1)): 4, writing("/f", 0, letters(129, 1)): 0, pointing("/n", "/x"): 6, mkdir("/f"): 0} {
		if got := impl.Credits(m.disk, call); got != want {
			t.Errorf("%+v has %d credits", call, got)
		}
	}
}

// nameless has a file of so many blocks that is open, and has two names.
func nameless(t *testing.T, log int64, blocks int) (impl.Disk, []impl.Call) {
	t.Helper()
	calls := []impl.Call{creating("/f"), creating("/g")}
	for i := range blocks {
		calls = append(calls, writing("/f", 64*int64(i), letters(64, byte(i))))
	}
	return grown(t, newDisk(120, log, 8), calls...), []impl.Call{opening("/f"), opening("/f")}
}

// What would have no name and more than the limit to free: exactly the limit is let go, one more is not, by whatever call.
func TestCreditsOfTheNameless(t *testing.T) {
	t.Parallel()
	for limit := int64(6); limit <= 16; limit++ {
		most := int(limit) - 3 // 2, its blocks, and the map's
		if most > 8 {
			most-- // the pointer block
		}
		for blocks := most - 1; blocks <= most+1; blocks++ {
			code := int64(0)
			if blocks > most {
				code = impl.ErrCredit
			}
			d, open := nameless(t, 4*limit+1, blocks)
			name := fmt.Sprint("limit ", limit, ", ", blocks, " blocks")
			end := 64 * int64(blocks)
			checkExpected(t, name, d, open, expected{unlinking("/f"), code}, expected{fstatOf(1), 0}, expected{closing(1), 0}, expected{closing(2), 0}, expected{spaceLeft(), 0})
			checkExpected(t, name+", renamed over", d, open, expected{renaming("/g", "/f"), code}, expected{closing(2), 0}, expected{closing(1), 0}, expected{spaceLeft(), 0})
			checkExpected(t, name+", another name", d, append(open, linking("/f", "/h")), expected{unlinking("/f"), 0}, expected{renaming("/g", "/h"), code}, expected{closing(1), 0}, expected{closing(2), 0})
			if code != 0 {
				// cut to what may go, it may; and it may not grow again
				checkExpected(t, name+", cut", d, open, expected{unlinking("/f"), code}, expected{ftruncating(1, 64*int64(most)), 0}, expected{unlinking("/f"), 0}, expected{pwriting(2, 64*int64(most), "x"), code}, expected{pwriting(1, 0, "x"), 0}, expected{ftruncating(2, end), 0},
					expected{pwriting(2, end-1, "x"), code}, expected{ftruncating(1, 0), 0}, expected{pwriting(1, 0, "x"), 0}, expected{closing(1), 0}, expected{closing(2), 0}, expected{spaceLeft(), 0})
			}
			if blocks == most {
				checkExpected(t, name+", grown", d, open, expected{unlinking("/f"), 0}, expected{pwriting(1, end, "x"), impl.ErrCredit}, expected{pwriting(1, end-64, letters(64, 9)), 0}, expected{ftruncating(1, 2560), 0}, expected{syncing(), 0}, expected{closing(2), 0}, expected{pwriting(1, end, "x"), impl.ErrCredit}, expected{closing(1), 0}, expected{checkpointing(), 0})
			}
		}
	}
}
