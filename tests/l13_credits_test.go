package tests

import (
	"fmt"
	"strings"
	"testing"

	"loop.example/s01525/impl"
)

// creditCase has a call behind others that take fewer credits: so many, and so many times the blocks of the map of blocks.
type creditCase struct {
	ahead      []impl.Call
	call       impl.Call
	base, maps int64
}

// filledBlocks writes these blocks of a file, each in a call of its own.
func filledBlocks(path string, from, to int64) []impl.Call {
	var calls []impl.Call
	for i := from; i < to; i++ {
		calls = append(calls, writing(path, 64*i, letters(64, byte(i))))
	}
	return calls
}

// creditCases have each of the six sums in them: data, pointers, inodes, the map of inodes, what is freed, the map of blocks.
func creditCases() map[string]creditCase {
	file := func(from, to int64) []impl.Call {
		return append([]impl.Call{creating("/f")}, filledBlocks("/f", from, to)...)
	}
	ten := file(0, 10)
	spread := append(file(0, 3), filledBlocks("/f", 12, 20)...)
	return map[string]creditCase{
		"data, all of them there":           {file(0, 12), writing("/f", 0, letters(768, 9)), 12, 0},
		"data, some have their bytes":       {file(0, 16), writing("/f", 0, letters(64, 0)+letters(64, 1)+letters(14*64, 9)), 14, 0},
		"data, and new ones":                {file(0, 4), writing("/f", 0, letters(512, 9)), 8 + 1, 1},
		"data, new ones of zeros":           {file(0, 1), writing("/f", 64, strings.Repeat("\x00", 448)), 7 + 1, 1},
		"data, half a block at each end":    {file(0, 1), writing("/f", 40, letters(448, 9)), 8 + 1, 1},
		"pointers, a new block of them":     {file(0, 8), writing("/f", 0, letters(513, 9)), 9 + 1 + 1, 1},
		"pointers, one more in it":          {file(0, 9), writing("/f", 64, letters(576, 9)), 9 + 1 + 1, 1},
		"pointers, all of them there":       {file(0, 12), writing("/f", 1, letters(767, 9)), 12, 0},
		"pointers, new and nothing else":    {[]impl.Call{creating("/f")}, writing("/f", 512, letters(512, 9)), 8 + 1 + 1, 1},
		"pointers, one hole less":           {append(ten, truncating("/f", 2560)), writing("/f", 512, letters(192, 9)+letters(6*64, 3)), 9 + 1 + 1, 1},
		"inodes, the size alone":            {file(0, 10), appending("/f", ""), 0, 0},
		"inodes, no other size":             {append(file(0, 10), truncating("/f", 2560)), writing("/f", 640, letters(512, 9)), 8 + 1 + 1, 1},
		"freed, all":                        {ten, truncating("/f", 0), 11 + 1, 1},
		"freed, down to a byte":             {ten, truncating("/f", 1), 1 + 10 + 1, 1},
		"freed, no pointer block any more":  {file(0, 20), truncating("/f", 512), 13 + 1, 1},
		"freed, a pointer block that stays": {file(0, 20), truncating("/f", 576), 1 + 11 + 1, 1},
		"freed, with holes":                 {spread, truncating("/f", 64), 11 + 1, 1},
		"freed, a file":                     {ten, unlinking("/f"), 2 + 1 + 12, 1},
		"freed, the last of two names":      {append(ten, linking("/f", "/g"), unlinking("/f")), unlinking("/g"), 2 + 1 + 12, 1},
		"a name of several":                 {append(ten, linking("/f", "/g")), unlinking("/g"), 1 + 2, 0},
		"freed, renamed over":               {append(ten, creating("/g")), renaming("/g", "/f"), 1 + 2 + 1 + 11, 1},
		"freed, moved over":                 {append(ten, mkdir("/a"), creating("/a/g")), renaming("/a/g", "/f"), 1 + 2 + 1 + 12, 1},
		"freed, by its handle":              {append(ten, opening("/f")), ftruncating(1, 0), 11 + 1, 1},
		"data, by a handle":                 {append(file(0, 4), opening("/f"), linking("/f", "/g")), pwriting(1, 0, letters(512, 9)), 8 + 1, 1},
		"freed, a symbolic link":            {[]impl.Call{mkdir("/a"), pointing("/s", "/"+strings.Repeat("abcdefghijkl/", 15)+"x")}, unlinking("/s"), 1 + 2 + 1 + 4, 1},
	}
}

// Exactly at the limit and one beyond, with maps of one, two and four blocks.
func TestPlainCreditsAtTheLimit(t *testing.T) {
	t.Parallel()
	exact := 0
	for name, c := range creditCases() {
		for _, blocks := range []int64{512, 513, 2048} {
			want := c.base + c.maps*((blocks+511)/512)
			for _, log := range []int64{4*want - 1, 4 * want, 4*want + 3, 300} {
				if log < 16 {
					continue
				}
				g := impl.Geometry{Blocks: blocks, Log: log, Inodes: 8}
				code := int64(0)
				if want > log/4 {
					code = impl.ErrCredit
				}
				name := fmt.Sprint(name, ", ", blocks, " blocks, a log of ", log)
				if !allSucceed(g, c.ahead) {
					continue // the limit is too small for what comes ahead
				}
				if code != 0 {
					exact++
				}
				checkTold(t, name, g, c.ahead, expected{c.call, code}, expected{spaceLeft(), 0})
				if got := impl.Credits(impl.Run(impl.Mkfs(g), append(c.ahead, checkpointing()), -1).Disk, c.call); got != want && c.call.Handle == 0 {
					t.Errorf("%s: the file system tells %d credits, not %d", name, got, want)
				}
			}
		}
	}
	if exact < 60 {
		t.Error("one beyond:", exact)
	}
}

func allSucceed(g impl.Geometry, calls []impl.Call) bool {
	for _, a := range impl.PlainRun(g, calls).Answers {
		if a.Code != 0 {
			return false
		}
	}
	return true
}

// The least calls there are, at the least limits: four, five, six and seven.
func TestPlainCreditsOfSmallLogs(t *testing.T) {
	const credit = impl.ErrCredit
	first := []impl.Call{creating("/f"), mkdir("/a"), pointing("/s", "/f"), pointing("/s", "/"+strings.Repeat("abcdefg/", 8)+"x")}
	for log, codes := range map[int64][4]int64{16: {credit, credit, credit, credit}, 19: {credit, credit, credit, credit}, 20: {0, 0, credit, credit}, 23: {0, 0, credit, credit}, 24: {0, 0, 0, credit}, 27: {0, 0, 0, credit}, 28: {0, 0, 0, 0}} {
		for i, c := range first {
			// The first entry of the root: a block, two inodes, two maps, and the blocks of a link.
			checkTold(t, fmt.Sprint("a log of ", log), impl.Geometry{Blocks: 60, Log: log, Inodes: 8}, nil, expected{c, codes[i]}, expected{spaceLeft(), 0}, expected{listOf("/"), 0})
		}
	}
	// With more blocks the map of blocks weighs more.
	for log, code := range map[int64]int64{31: credit, 32: 0} {
		checkTold(t, fmt.Sprint("a map of four, a log of ", log), impl.Geometry{Blocks: 2048, Log: log, Inodes: 8}, nil, expected{creating("/f"), code})
	}
	// The ninth block of a directory, with a pointer block: six for a new file, five for another name.
	many := append([]impl.Call{mkdir("/d")}, manyNames("/d", 32)...)
	for log, codes := range map[int64][2]int64{23: {credit, 0}, 24: {0, 0}} {
		g := impl.Geometry{Blocks: 100, Log: log, Inodes: 12}
		checkTold(t, "a file more", g, many, expected{creating("/d/x"), codes[0]}, expected{statOf("/d"), 0})
		checkTold(t, "a name more", g, append(many, creating("/x")), expected{linking("/x", "/d/x"), codes[1]}, expected{unlinking("/d/x"), 0}, expected{linking("/x", "/d/n"), 0}, expected{unlinking("/d/n1"), codes[0]}) // a block changed, two freed, two inodes, the map of blocks
	}
}

// What would have no name and more than the limit to free: exactly the limit is let go, one more is not, by whatever call; closing never is.
func TestPlainCreditsOfTheNameless(t *testing.T) {
	t.Parallel()
	for limit := int64(6); limit <= 16; limit++ {
		most := limit - 3 // 2, its blocks, and the map's
		if most > 8 {
			most-- // the pointer block
		}
		g := impl.Geometry{Blocks: 120, Log: 4*limit + 1, Inodes: 8}
		for blocks := most - 1; blocks <= most+1; blocks++ {
			code := int64(0)
			if blocks > most {
				code = impl.ErrCredit
			}
			name := fmt.Sprint("limit ", limit, ", ", blocks, " blocks")
			end := 64 * blocks
			base := append([]impl.Call{creating("/f"), creating("/g")}, filledBlocks("/f", 0, blocks)...)
			open := append(base, opening("/f"), opening("/f"))
			checkTold(t, name, g, open, expected{unlinking("/f"), code}, expected{fstatOf(1), 0}, expected{spaceLeft(), 0}, expected{closing(1), 0}, expected{spaceLeft(), 0}, expected{closing(2), 0}, expected{spaceLeft(), 0})
			checkTold(t, name+", renamed over", g, open, expected{renaming("/g", "/f"), code}, expected{closing(2), 0}, expected{closing(1), 0}, expected{spaceLeft(), 0})
			checkTold(t, name+", another name", g, append(open, linking("/f", "/h")), expected{unlinking("/f"), 0}, expected{renaming("/g", "/h"), code}, expected{closing(1), 0}, expected{closing(2), 0})
			if code != 0 {
				// cut to what may go, it may; and it may not grow again
				checkTold(t, name+", cut", g, open, expected{unlinking("/f"), code}, expected{ftruncating(1, 64*most), 0}, expected{unlinking("/f"), 0}, expected{pwriting(2, 64*most, "x"), code}, expected{pwriting(1, 0, "x"), 0}, expected{ftruncating(2, end), 0},
					expected{pwriting(2, end-1, "x"), code}, expected{ftruncating(1, 0), 0}, expected{pwriting(1, 0, "x"), 0}, expected{closing(1), 0}, expected{closing(2), 0}, expected{spaceLeft(), 0})
			}
			if blocks == most {
				checkTold(t, name+", grown", g, open, expected{unlinking("/f"), 0}, expected{pwriting(1, end, "x"), impl.ErrCredit}, expected{pwriting(1, end-64, letters(64, 9)), 0}, expected{ftruncating(1, 2560), 0}, expected{syncing(), 0}, expected{closing(2), 0}, expected{pwriting(1, end, "x"), impl.ErrCredit}, expected{closing(1), 0}, expected{checkpointing(), 0})
			}
		}
	}
}

// The last inode and the last block: one more is refused, and whatever frees something makes room.
func TestPlainLastInodeAndBlock(t *testing.T) {
	checkTold(t, "inodes", impl.Geometry{Blocks: 60, Log: 40, Inodes: 4}, nil, lastInode()...)
	checkTold(t, "one inode", impl.Geometry{Blocks: 60, Log: 40, Inodes: 1}, nil, expected{creating("/a"), impl.ErrNoSpace}, expected{mkdir("/a"), impl.ErrNoSpace}, expected{pointing("/a", "/"), impl.ErrNoSpace}, expected{creating("/"), impl.ErrExists}, expected{listOf("/"), 0})
	g := impl.Geometry{Blocks: 60, Log: 40, Inodes: 8}
	one, none := lastBlockTree(), append(lastBlockTree(), takeLastBlock())
	for _, c := range lastBlockRows() {
		checkTold(t, "one block is left", g, one, expected{c.call, c.one}, expected{spaceLeft(), 0})
		checkTold(t, "none is left", g, none, expected{c.call, c.none}, expected{spaceLeft(), 0})
	}
	if space := impl.PlainRun(g, append(none, spaceLeft())).Answers[len(none)].Stat; space.Blocks != 0 || space.Size != 3 {
		t.Error(space)
	}
	checkTold(t, "open", g, append(none, opening("/g"), unlinking("/g")), fullAndOpen()...)
}

// No block is left, and these do not ask for one: they never want space.
func TestPlainCallsThatNeedNoSpace(t *testing.T) {
	g := impl.Geometry{Blocks: 60, Log: 40, Inodes: 6}
	none := append(lastBlockTree(), takeLastBlock(), mkdir("/e"), opening("/g"), opening("/f"))
	for _, c := range []impl.Call{
		unlinking("/f"), unlinking("/g"), unlinking("/d/x"), rmdir("/e"), truncating("/f", 2560), truncating("/f", 0), truncating("/g", 1), truncating("/f", 512), ftruncating(1, 2560), ftruncating(1, 0), ftruncating(2, 511), closing(1), closing(2),
	} {
		// f has eight blocks: without a name it would take eleven credits to free it, and the limit is ten.
		code := int64(0)
		if c == unlinking("/f") {
			code = impl.ErrCredit
		}
		checkTold(t, "full", g, none, expected{creating("/n"), impl.ErrNoSpace}, expected{c, code}, expected{spaceLeft(), 0}, expected{fstatOf(1), closedCode(c)})
	}
}

// closedCode is that of handle 1 behind a call.
func closedCode(c impl.Call) int64 {
	if c == closing(1) {
		return impl.ErrHandle
	}
	return 0
}

// A move frees in the same step what it takes: a directory's last block, for another's first; not if a pointer block is wanted too.
func TestPlainSpaceFreedInTheSameStep(t *testing.T) {
	for _, spare := range []int64{0, 1, 2} {
		for _, many := range []int{0, 3, 4, 31, 32, 33, 36} {
			used := int64(2 + (many+3)/4)
			if many > 32 {
				used++
			}
			g := impl.Geometry{Blocks: 2 + 64 + 2 + 5 + used + spare, Log: 64, Inodes: 10}
			code := int64(0)
			if many == 32 && spare == 0 {
				code = impl.ErrNoSpace
			}
			ahead := append([]impl.Call{mkdir("/a"), mkdir("/b"), creating("/a/x")}, manyNames("/b", many)...)
			told := checkTold(t, fmt.Sprint(spare, " spare, ", many, " entries"), g, append(ahead, spaceLeft()), expected{renaming("/a/x", "/b/x"), code}, expected{spaceLeft(), 0}, expected{listOf("/b"), 0})
			if left := impl.PlainRun(g, append(ahead, spaceLeft())).Answers[len(ahead)].Stat.Blocks; left != spare || code == 0 && len(told[2].Names) != many+1 {
				t.Error(spare, many, left, told)
			}
		}
	}
	// Renamed over: what goes leaves its inode and its blocks for what comes behind.
	g := impl.Geometry{Blocks: 48, Log: 40, Inodes: 4}
	checkTold(t, "renamed over", g, []impl.Call{creating("/f"), writing("/f", 0, "f"), creating("/g"), mkdir("/a")}, expected{writing("/g", 0, "g"), impl.ErrNoSpace}, expected{creating("/n"), impl.ErrNoSpace}, expected{renaming("/g", "/f"), 0}, expected{writing("/f", 0, "g"), 0}, expected{creating("/n"), 0}, expected{creating("/m"), impl.ErrNoSpace}, expected{creating("/a/m"), impl.ErrNoSpace}, expected{spaceLeft(), 0})
}
