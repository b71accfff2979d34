package tests

import (
	"fmt"
	"maps"
	"slices"
	"strings"
	"testing"

	"loop.example/s01525/impl"
)

// manyNames are calls that give a directory so many entries, eight of each file.
func manyNames(dir string, n int) []impl.Call {
	var calls []impl.Call
	for i := range n {
		if i%8 == 0 {
			calls = append(calls, creating(fmt.Sprint(dir, "/n", i)))
		} else {
			calls = append(calls, linking(fmt.Sprint(dir, "/n", i-i%8), fmt.Sprint(dir, "/n", i)))
		}
	}
	return calls
}

// placeCalls make the tree of placeItems, in calls of at most six credits.
func placeCalls() []impl.Call {
	calls := []impl.Call{
		mkdir("/a"), creating("/f"), pointing("/s", "/a"), pointing("/l", "/l"), mkdir("/d"), pointing("/n", "/nothing"), pointing("/r", "/"), mkdir("/e"), pointing("/q", deepPath), mkdir("/p"), pointing("/u", "/v"), pointing("/v", "/u/x"), pointing("/t", "/f"),
		mkdir("/a/b"), creating("/a/g"), creating("/a/b/c"), mkdir("/a/b/z"), writing("/f", 0, placeItems()[3].data), writing("/a/g", 0, placeItems()[48].data),
	}
	for depth := 2; depth <= 16; depth++ {
		calls = append(calls, mkdir(strings.Repeat("/p", depth)))
	}
	return append(calls, manyNames("/d", 160)...)
}

// placeTrees are geometries for it: with room, without a free block or inode, with a log for few changes at once, and with neither.
func placeTrees() map[string]impl.Geometry {
	return map[string]impl.Geometry{"room": placeGeometry(128, 40, 4), "full": placeGeometry(128, 0, 0), "a small log": placeGeometry(24, 40, 4), "a small log, full": placeGeometry(24, 0, 0)}
}

func TestPlacesOfPlainTrees(t *testing.T) {
	t.Parallel()
	want := impl.Tree(placeDisk(128, 40, 4), nil).Nodes
	for name, g := range placeTrees() {
		space := impl.Stat{Size: 4, Blocks: 40}
		if strings.HasSuffix(name, "full") {
			space = impl.Stat{}
		}
		told := checkTold(t, name, g, placeCalls(), expected{spaceLeft(), 0})
		if told[0].Stat != space {
			t.Error(name, told)
		}
		nodes := impl.PlainRun(g, placeCalls()).Nodes
		for i := range nodes {
			nodes[i].Inode = want[i].Inode
		}
		samePlain(t, name, nil, impl.PlainResult{Nodes: nodes}, impl.PlainResult{Nodes: want})
	}
}

// Each error of each call alone, and each pair in the order in which they stand: room and credits come last. Nothing is changed.
func TestPlainCallsRefused(t *testing.T) {
	t.Parallel()
	for name, g := range placeTrees() {
		ahead := placeCalls()
		nodes := impl.PlainRun(g, ahead).Nodes
		for list := range slices.Chunk(refusedCalls(), 1000-len(ahead)) {
			for i, a := range checkTold(t, name, g, ahead, list...) {
				if value(a) != value(impl.Answer{Code: list[i].code}) {
					t.Errorf("%s: %+v answers %+v", name, list[i].call, a)
				}
			}
			var calls []impl.Call
			for _, e := range list {
				calls = append(calls, e.call)
			}
			behind := impl.PlainRun(g, append(slices.Clip(ahead), calls...)).Nodes
			samePlain(t, name, nil, impl.PlainResult{Nodes: behind}, impl.PlainResult{Nodes: nodes})
		}
	}
}

// What is not refused otherwise: with room, without a free block or inode, with a limit of 6, and with both.
func TestPlainCallsWithAndWithoutRoom(t *testing.T) {
	t.Parallel()
	const space, credit = impl.ErrNoSpace, impl.ErrCredit
	trees := map[string]stem{}
	for name, g := range placeTrees() {
		trees[name] = stemOf(t, name, g, placeCalls())
	}
	order := []string{"room", "full", "a small log", "a small log, full"}
	twoBlocks := "/" + strings.Repeat("abcdefg/", 8) + "x"
	for _, row := range []struct {
		call  impl.Call
		codes [4]int64
	}{
		{creating("/x"), [4]int64{0, space, 0, space}},
		{mkdir("/s/x"), [4]int64{0, space, 0, space}},
		{creating("/e/x"), [4]int64{0, space, 0, space}},
		{pointing("/x", "/anything"), [4]int64{0, space, 0, space}},    // a block of the root, one of the link, two inodes, both maps
		{pointing("/x", twoBlocks), [4]int64{0, space, credit, space}}, // two of the link
		{linking("/f", "/x"), [4]int64{0, 0, 0, 0}},
		{linking("/f", "/e/x"), [4]int64{0, space, 0, space}},
		{writing("/f", 0, "x"), [4]int64{0, 0, 0, 0}},
		{writing("/t", 128, "x"), [4]int64{0, space, 0, space}},
		{writing("/f", 0, letters(256, 3)), [4]int64{0, space, 0, space}},
		{writing("/f", 0, letters(257, 3)), [4]int64{0, space, credit, space}},
		{writing("/f", 2560, ""), [4]int64{0, 0, 0, 0}},
		{writing("/f", 2559, "x"), [4]int64{0, space, 0, space}},
		{appending("/f", letters(58, 1)), [4]int64{0, 0, 0, 0}},
		{appending("/f", letters(59, 1)), [4]int64{0, space, 0, space}},
		{appending("/f", letters(2490, 1)), [4]int64{credit, space, credit, space}},
		{truncating("/f", 2560), [4]int64{0, 0, 0, 0}},
		{truncating("/f", 69), [4]int64{0, 0, 0, 0}},
		{truncating("/f", 0), [4]int64{0, 0, 0, 0}},
		{unlinking("/t"), [4]int64{0, 0, 0, 0}},           // freed: the root's last block and the link's; two inodes, both maps
		{unlinking("/s"), [4]int64{0, 0, credit, credit}}, // and the last entry comes to the first block
		{unlinking("/f"), [4]int64{0, 0, credit, credit}},
		{unlinking("/a/g"), [4]int64{0, 0, 0, 0}},
		{unlinking("/d/n3"), [4]int64{0, 0, 0, 0}},
		{rmdir("/e"), [4]int64{0, 0, 0, 0}},
		{rmdir("/a/b/z"), [4]int64{0, 0, 0, 0}},
		{renaming("/f", "/x"), [4]int64{0, 0, 0, 0}},
		{renaming("/f", "/a/x"), [4]int64{0, 0, 0, 0}},
		{renaming("/f", "/e/x"), [4]int64{0, 0, 0, 0}}, // the root frees a block, so that one is free for e
		{renaming("/a/g", "/e/x"), [4]int64{0, space, 0, space}},
		{renaming("/f", "/a/g"), [4]int64{0, 0, credit, credit}},
		{renaming("/a/b/z", "/e"), [4]int64{0, 0, 0, 0}},
		{renaming("/e", "/s/b/z"), [4]int64{0, 0, credit, credit}}, // a block of the root changed and one freed, one of b; three inodes, both maps, but for b's inode
		{renaming("/d/n0", "/d/x"), [4]int64{0, 0, 0, 0}},
		{renaming("/d/n0", "/d/n1"), [4]int64{0, 0, 0, 0}},
		{renaming("/d/n0", "/d/n8"), [4]int64{0, 0, 0, 0}},
		{renaming("/a", "/a"), [4]int64{0, 0, 0, 0}},
		{renaming("/l", "/x"), [4]int64{0, 0, 0, 0}},
		{renaming("/e", strings.Repeat("/p", 15)+"/x"), [4]int64{0, 0, 0, 0}},
		{renaming("/a", strings.Repeat("/p", 13)+"/x"), [4]int64{0, 0, 0, 0}},
		{opening("/t"), [4]int64{0, 0, 0, 0}},
		{syncing(), [4]int64{0, 0, 0, 0}},
	} {
		for i, name := range order {
			trees[name].checkTold(t, name, expected{row.call, row.codes[i]}, expected{spaceLeft(), 0}, expected{listOf("/"), 0})
		}
	}
}

// Calls that look: what they tell of files, directories and links, by paths through all sorts of links.
func TestPlainCallsThatLook(t *testing.T) {
	t.Parallel()
	for name, g := range placeTrees() {
		var list []expected
		for _, row := range lookRows() {
			if row.call.Kind != impl.CallSpace || name == "room" {
				list = append(list, expected{row.call, row.want.Code})
			}
		}
		told := checkTold(t, name, g, placeCalls(), list...)
		for i, e := range list {
			at := slices.IndexFunc(lookRows(), func(row lookRow) bool { return row.call == e.call })
			if want := lookRows()[at].want; value(told[i]) != value(want) {
				t.Errorf("%s: %+v answers %+v, not %+v", name, e.call, told[i], want)
			}
		}
	}
}

// Fields that a call does not use play no part.
func TestPlainCallsUseTheirFieldsAlone(t *testing.T) {
	t.Parallel()
	g := placeGeometry(128, 40, 4)
	for kind, pair := range fieldPairs() {
		a := impl.PlainRun(g, append(placeCalls(), opening("/f"), pair[0], syncing(), listOf("/a"), spaceLeft()))
		b := impl.PlainRun(g, append(placeCalls(), opening("/f"), pair[1], syncing(), listOf("/a"), spaceLeft()))
		if at := len(placeCalls()) + 1; value(a) != value(b) || (a.Answers[at].Code != 0) != (kind < 1 || kind > 25) {
			t.Errorf("kind %d: %+v and %+v", kind, a.Answers[at:], b.Answers[at:])
		}
	}
}

// Every code of the calls is among what is refused.
func TestPlainCodesAreAll(t *testing.T) {
	seen := map[int64]bool{impl.ErrNoSpace: true, impl.ErrCredit: true, impl.ErrHandles: true}
	for _, e := range refusedCalls() {
		seen[e.code] = true
	}
	if got := slices.Sorted(maps.Keys(seen)); !slices.Equal(got, runOf(30, 20)) {
		t.Error(got)
	}
}
