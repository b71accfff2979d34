package tests

import (
	"math"
	"math/rand"
	"slices"
	"strings"
	"testing"

	"loop.example/s01525/impl"
)

// Which geometries are valid: each number below its bounds, at them and above them, and no block left for data.
func TestPlainRunGeometries(t *testing.T) {
	least, most := int64(math.MinInt64), int64(math.MaxInt64)
	bad := []impl.Geometry{{}, {Blocks: 48, Log: 40, Inodes: 8}, {Blocks: 49, Log: 40, Inodes: 9}, {Blocks: 49, Log: 41, Inodes: 8}, {Blocks: 21, Log: 16, Inodes: 1}, {Blocks: 645, Log: 512, Inodes: 256}, {Blocks: least, Log: least, Inodes: least}, {Blocks: most, Log: most, Inodes: most}}
	for _, blocks := range []int64{least, -1, 0, 1, 47, 2049, 2050, 65536 + 60, most} {
		bad = append(bad, impl.Geometry{Blocks: blocks, Log: 40, Inodes: 8})
	}
	for _, log := range []int64{least, -1, 0, 1, 15, 513, 65536 + 40, most} {
		bad = append(bad, impl.Geometry{Blocks: 2048, Log: log, Inodes: 8})
	}
	for _, inodes := range []int64{least, -1, 0, 257, 65536 + 8, most} {
		bad = append(bad, impl.Geometry{Blocks: 2048, Log: 40, Inodes: inodes})
	}
	calls := []impl.Call{spaceLeft(), creating("/f")}
	for _, g := range bad {
		// The geometry is looked at first.
		for _, calls := range [][]impl.Call{nil, calls, make([]impl.Call, 1001)} {
			if r := impl.PlainRun(g, calls); value(r) != value(impl.PlainResult{Code: impl.ErrSuper}) {
				t.Error(g, "of", len(calls), "calls has the code", r.Code, len(r.Answers), len(r.Nodes))
			}
		}
	}
	for g, space := range map[impl.Geometry]impl.Stat{
		{Blocks: 22, Log: 16, Inodes: 1}:      {Size: 0, Blocks: 1},
		{Blocks: 49, Log: 40, Inodes: 8}:      {Size: 7, Blocks: 1},
		{Blocks: 646, Log: 512, Inodes: 256}:  {Size: 255, Blocks: 1},
		{Blocks: 2048, Log: 512, Inodes: 256}: {Size: 255, Blocks: 1401},
		{Blocks: 2048, Log: 16, Inodes: 1}:    {Size: 0, Blocks: 2024},
		{Blocks: 512, Log: 100, Inodes: 9}:    {Size: 8, Blocks: 403},
		{Blocks: 513, Log: 100, Inodes: 9}:    {Size: 8, Blocks: 403},
		{Blocks: 1025, Log: 64, Inodes: 255}:  {Size: 254, Blocks: 827},
		{Blocks: 2048, Log: 511, Inodes: 2}:   {Size: 1, Blocks: 1529},
	} {
		r := checkTree(t, "valid", g, calls[:1])
		if r.Code != 0 || r.Answers[0].Stat != space {
			t.Error(g, r.Code, r.Answers)
		}
	}
}

func TestPlainRunCodes(t *testing.T) {
	g := impl.Geometry{Blocks: 60, Log: 40, Inodes: 8}
	few := slices.Repeat([]impl.Call{spaceLeft()}, 1000)
	if r := impl.PlainRun(g, few); r.Code != 0 || len(r.Answers) != 1000 || r.Answers[999].Stat != (impl.Stat{Size: 7, Blocks: 12}) || len(r.Nodes) != 1 {
		t.Error("1000 calls:", r.Code, len(r.Answers), len(r.Nodes))
	}
	for _, n := range []int{1001, 1002, 5000} {
		for _, g := range []impl.Geometry{g, {Blocks: 2048, Log: 512, Inodes: 256}, {Blocks: 22, Log: 16, Inodes: 1}} {
			if r := impl.PlainRun(g, slices.Repeat([]impl.Call{mkdir("/a")}, n)); value(r) != value(impl.PlainResult{Code: impl.ErrCall}) {
				t.Error(n, "calls:", r.Code, len(r.Answers), len(r.Nodes))
			}
		}
	}
}

// No calls at all: the root alone.
func TestPlainRunOfNone(t *testing.T) {
	for _, g := range plainGeometries(rand.New(rand.NewSource(1300)), 40) {
		for _, calls := range [][]impl.Call{nil, {}} {
			r := checkTree(t, "none", g, calls)
			if r.Code != 0 || len(r.Answers) != 0 || len(r.Nodes) != 1 || r.Nodes[0] != (impl.Node{Path: "/", Kind: 2, Inode: 1, Links: 1}) {
				t.Errorf("%v: %+v", g, r)
			}
		}
	}
}

// The example of 12.5: with a limit of 4 there is no place for the first directory, with one of 10 there is.
func TestPlainRunExample(t *testing.T) {
	calls := []impl.Call{mkdir("/a"), creating("/a/f"), writing("/a/f", 0, "xyz"), syncing()}
	small := checkTree(t, "a limit of 4", impl.Geometry{Blocks: 60, Log: 16, Inodes: 8}, calls)
	var codes []int64
	for _, a := range small.Answers {
		codes = append(codes, a.Code)
	}
	if !slices.Equal(codes, []int64{impl.ErrCredit, impl.ErrNoEntry, impl.ErrNoEntry, 0}) || len(small.Nodes) != 1 {
		t.Error(codes, small.Nodes)
	}
	r := checkTree(t, "a limit of 10", impl.Geometry{Blocks: 60, Log: 40, Inodes: 8}, calls)
	want := []impl.Node{{Path: "/", Kind: 2, Inode: 1, Links: 1, Size: 16, Blocks: 1}, {Path: "/a", Kind: 2, Inode: 2, Links: 1, Size: 16, Blocks: 1}, {Path: "/a/f", Kind: 1, Inode: 3, Links: 1, Size: 3, Blocks: 1, Data: "xyz"}}
	if value(r) != value(impl.PlainResult{Answers: make([]impl.Answer, 4), Nodes: want}) {
		t.Errorf("%+v", r)
	}
}

// Whatever was changed: these three answer success, and nothing else.
func TestPlainSettlingCalls(t *testing.T) {
	g := impl.Geometry{Blocks: 90, Log: 40, Inodes: 8}
	ahead := []impl.Call{creating("/f"), writing("/f", 0, letters(300, 1)), opening("/f"), unlinking("/f"), mkdir("/a"), closing(1), pointing("/s", "/a")}
	settle := []impl.Call{syncing(), checkpointing(), logNow()}
	full := impl.Call{Path: "/a", To: "/s", Handle: 1, Offset: 2, Size: 3, Data: "x"}
	for n := range len(ahead) + 1 {
		var calls []impl.Call
		for _, c := range ahead[:n] {
			calls = append(calls, c)
			calls = append(calls, settle...)
		}
		for _, c := range settle {
			full.Kind = c.Kind
			calls = append(calls, c, full)
		}
		r := checkTree(t, "settled", g, calls)
		for i, c := range calls {
			if isSettling := slices.ContainsFunc(settle, func(s impl.Call) bool { return s.Kind == c.Kind }); isSettling && value(r.Answers[i]) != value(impl.Answer{}) {
				t.Errorf("%+v answers %+v", c, r.Answers[i])
			}
		}
		samePlain(t, "without them", ahead, impl.PlainResult{Nodes: impl.PlainRun(g, ahead[:n]).Nodes}, impl.PlainResult{Nodes: r.Nodes})
	}
}

// Nodes come by rising path, byte by byte: what lies below a directory may come behind a name that the directory's begins.
func TestPlainNodesInOrder(t *testing.T) {
	g := impl.Geometry{Blocks: 120, Log: 64, Inodes: 20}
	r := checkTree(t, "in order", g, []impl.Call{mkdir("/b"), mkdir("/a"), creating("/a0"), creating("/a/z"), mkdir("/a!"), creating("/a!/z"), creating("/a.b"), creating("/a/a"), linking("/a/a", "/A"), pointing("/~", "/a"), creating("/a-"), creating("/!"), mkdir("/a/b"), creating("/a/b/c")})
	var paths []string
	for _, n := range r.Nodes {
		paths = append(paths, n.Path)
	}
	if got := strings.Join(paths, " "); got != "/ /! /A /a /a! /a!/z /a- /a.b /a/a /a/b /a/b/c /a/z /a0 /b /~" {
		t.Error(got)
	}
	at := findNode(r.Nodes, "/A")
	if r.Nodes[at].Inode != r.Nodes[findNode(r.Nodes, "/a/a")].Inode || r.Nodes[at].Links != 2 {
		t.Error(r.Nodes[at])
	}
}
