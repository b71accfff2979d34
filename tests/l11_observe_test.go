package tests

import (
	"fmt"
	"math"
	"math/rand"
	"slices"
	"strings"
	"testing"

	"loop.example/s01525/impl"
)

// The sample, node by node.
func TestObserveByHand(t *testing.T) {
	o := impl.Observe(sample().disk)
	items := sampleItems()
	want := []impl.Node{
		{Path: "/", Kind: 2, Inode: 1, Links: 1, Size: 80, Blocks: 2},
		{Path: "/a", Kind: 2, Inode: 2, Links: 1, Size: 32, Blocks: 1},
		{Path: "/a/f", Kind: 1, Inode: 3, Links: 2, Size: 70, Blocks: 2, Data: items[3].data},
		{Path: "/a/g", Kind: 1, Inode: 4, Links: 1, Size: 600, Blocks: 2, Data: strings.Repeat("\x00", 576) + items[4].data[576:]},
		{Path: "/big", Kind: 1, Inode: 5, Links: 1, Size: 2560, Blocks: 41, Data: items[5].data},
		{Path: "/d", Kind: 2, Inode: 7, Links: 1, Size: 576, Blocks: 10},
	}
	for n := range int64(36) {
		node := impl.Node{Path: fmt.Sprintf("/d/n%02d", n), Kind: 1, Inode: 8 + n/8, Links: 8, Size: []int64{0, 1, 63, 64, 6}[n/8], Blocks: 1, Data: items[8+n/8].data}
		switch node.Inode {
		case 8:
			node.Blocks = 0
		case 12:
			node.Kind, node.Links, node.Data = 3, 4, "/d/n35"
		}
		want = append(want, node)
	}
	want = append(want, impl.Node{Path: "/f", Kind: 1, Inode: 3, Links: 2, Size: 70, Blocks: 2, Data: items[3].data})
	want = append(want, impl.Node{Path: "/l", Kind: 3, Inode: 6, Links: 1, Size: 4, Blocks: 1, Data: "/a/g"})
	if o.Code != 0 || !slices.Equal(o.Nodes, want) {
		t.Errorf("seen are\n%v, not\n%v", o.Nodes, want)
	}
	if u := impl.Count(o.Nodes); u != (impl.Usage{Inodes: 12, Blocks: 63}) {
		t.Error("counted are", u)
	}
}

// Paths are texts: what begins alike is ahead, and a byte below the stroke comes ahead of what lies in a directory.
func TestObserveOrder(t *testing.T) {
	names := []string{"a", "a!", "a-", "a.", "a.b", "a0", "aa", "A", "b", "~", "!", "abcdefghijklm", "Z", "0"}
	items := map[int64]item{}
	var entries []impl.Entry
	for i, name := range names {
		number := int64(i) + 2
		entries = append(entries, impl.Entry{Inode: number, Name: name})
		items[number] = dirOf(impl.Entry{Inode: 100, Name: "x" + fmt.Sprint(i)})
		if i >= 8 {
			items[number] = linkTo(1, "/"+name)
		}
	}
	items[1], items[100] = dirOf(entries...), fileOf(8, "hello")
	m := laid(impl.Geometry{Blocks: 200, Log: 16, Inodes: 100}, items)
	checkBroken(t, "many names", m.disk)
	var paths []string
	for _, n := range impl.Observe(m.disk).Nodes {
		paths = append(paths, n.Path)
	}
	want := []string{
		"/", "/!", "/0", "/A", "/A/x7", "/Z", "/a", "/a!", "/a!/x1", "/a-", "/a-/x2", "/a.", "/a./x3", "/a.b", "/a.b/x4", "/a/x0", "/a0", "/a0/x5", "/aa", "/aa/x6", "/abcdefghijklm", "/b", "/~",
	}
	if !slices.Equal(paths, want) {
		t.Errorf("the paths are\n%q, not\n%q", paths, want)
	}
}

// Files of all sizes at the edges, full and with holes.
func TestObserveOfFiles(t *testing.T) {
	t.Parallel()
	for _, size := range []int{0, 1, 63, 64, 65, 511, 512, 513, 576, 577, 2495, 2496, 2497, 2559, 2560} {
		for _, indexes := range [][]int64{nil, {0}, {1, 3}, {7}, {8}, {9, 39}, {0, 7, 8, 38}, runOf(0, 40)} {
			indexes = slices.DeleteFunc(slices.Clone(indexes), func(index int64) bool { return index*64 >= int64(size) })
			f := holedFile(1, size, indexes...)
			m := sampleWith(map[int64]item{4: f})
			checkBroken(t, "a file", m.disk)
			nodes := impl.Observe(m.disk).Nodes
			n := nodes[findNode(nodes, "/a/g")]
			if n.Size != int64(size) || n.Data != f.data || n.Blocks != plainNeed(indexes) {
				t.Errorf("a file of %d with %v is told as %v", size, indexes, n)
			}
		}
	}
}

// A file of eight names is told eight times, each time the same; one without a name never.
func TestObserveOfNames(t *testing.T) {
	nodes := impl.Observe(sample().disk).Nodes
	for _, n := range nodes {
		if n.Inode == 13 {
			t.Error("a file without a name is told:", n)
		}
		first := nodes[slices.IndexFunc(nodes, func(o impl.Node) bool { return o.Inode == n.Inode })]
		first.Path = n.Path
		if first != n {
			t.Error("a file is told as", first, "and as", n)
		}
	}
	deep := laid(impl.Geometry{Blocks: 400, Log: 16, Inodes: 100}, chain(16, nil))
	seen := impl.Observe(deep.disk).Nodes
	if len(seen) != 17 || seen[16].Path != strings.Repeat("/d", 16) || seen[16].Inode != 17 {
		t.Error("seen are", seen)
	}
}

// As many nodes as there can be: 255 files with eight names each.
func TestObserveOfManyNodes(t *testing.T) {
	items := map[int64]item{}
	var root []impl.Entry
	for dir := int64(0); dir < 13; dir++ {
		root = append(root, impl.Entry{Inode: 2 + dir, Name: fmt.Sprint("d", dir)})
		var entries []impl.Entry
		for e := range int64(160) {
			if number := 15 + (dir*160+e)/8; number <= 256 {
				entries = append(entries, impl.Entry{Inode: number, Name: fmt.Sprint("n", e)})
				items[number] = sizedFile(8, int(number%3))
			}
		}
		items[2+dir] = dirOf(entries...)
	}
	items[1] = dirOf(root...)
	m := laid(impl.Geometry{Blocks: 2048, Log: 512, Inodes: 256}, items)
	checkBroken(t, "many names", m.disk)
	o := impl.Observe(m.disk)
	if len(o.Nodes) != 14+242*8 || impl.Count(o.Nodes).Inodes != 256 {
		t.Error(len(o.Nodes), "nodes", impl.Count(o.Nodes))
	}
}

func TestCountByHand(t *testing.T) {
	type nodes = []impl.Node
	far := nodes{{Inode: math.MinInt64, Blocks: 1}, {Inode: math.MaxInt64, Blocks: 2}, {Inode: -1, Blocks: 4}, {Inode: 0, Blocks: 8}, {Inode: math.MinInt64, Blocks: 16}, {Inode: math.MaxInt64, Blocks: 32}}
	for _, c := range []struct {
		nodes nodes
		want  impl.Usage
	}{
		{nil, impl.Usage{}},
		{nodes{}, impl.Usage{}},
		{nodes{{}}, impl.Usage{Inodes: 1}},
		{nodes{{Inode: 3, Blocks: 5}, {Inode: 3, Blocks: 7}}, impl.Usage{Inodes: 1, Blocks: 5}},
		{nodes{{Inode: 3, Blocks: 0}, {Inode: 3, Blocks: 7}}, impl.Usage{Inodes: 1}},
		{nodes{{Inode: 3, Blocks: -1}, {Inode: 3, Blocks: 7}}, impl.Usage{Inodes: 1}},
		{nodes{{Inode: 3, Blocks: 2049}, {Inode: 3, Blocks: 7}, {Inode: 4, Blocks: 2}}, impl.Usage{Inodes: 2, Blocks: 2}},
		{nodes{{Inode: 3, Blocks: 7}, {Inode: 3, Blocks: 2049}}, impl.Usage{Inodes: 1, Blocks: 7}},
		{nodes{{Inode: 1, Blocks: 2048}, {Inode: 2, Blocks: 2048}}, impl.Usage{Inodes: 2, Blocks: 4096}},
		{nodes{{Inode: 1, Blocks: math.MaxInt64}, {Inode: 2, Blocks: math.MinInt64}, {Inode: 5, Blocks: 1}}, impl.Usage{Inodes: 3, Blocks: 1}},
		{far, impl.Usage{Inodes: 4, Blocks: 15}},
		{nodes{{Path: "/x", Kind: 9, Links: 9, Size: -7, Data: "x", Inode: 2, Blocks: 3}, {Path: "/x", Inode: 2, Blocks: 3}}, impl.Usage{Inodes: 1, Blocks: 3}},
	} {
		if got := impl.Count(c.nodes); got != c.want {
			t.Errorf("%v: counted are %v, not %v", c.nodes, got, c.want)
		}
	}
}

func TestCountOfManyNodes(t *testing.T) {
	all := func(n int, blocks int64, inode func(i int) int64) []impl.Node {
		nodes := make([]impl.Node, n)
		for i := range nodes {
			nodes[i] = impl.Node{Inode: inode(i), Blocks: blocks}
		}
		return nodes
	}
	own := func(i int) int64 { return int64(i) }
	same := func(i int) int64 { return 7 }
	for n, want := range map[int]impl.Usage{9999: {Inodes: 9999, Blocks: 9999 * 2048}, 10000: {Inodes: 10000, Blocks: 10000 * 2048}, 10001: {}, 20000: {}} {
		if got := impl.Count(all(n, 2048, own)); got != want {
			t.Error(n, "nodes:", got)
		}
	}
	for n, want := range map[int]impl.Usage{10000: {Inodes: 1, Blocks: 3}, 10001: {}} {
		if got := impl.Count(all(n, 3, same)); got != want {
			t.Error(n, "nodes of one number:", got)
		}
	}
	draw := rand.New(rand.NewSource(1104))
	for range 300 {
		nodes := drawnNodes(draw, draw.Intn(40))
		if got, want := impl.Count(nodes), plainCount(nodes); got != want {
			t.Errorf("%v: counted are %v, not %v", nodes, got, want)
		}
	}
}

// drawnNodes are any nodes, few numbers among them.
func drawnNodes(draw *rand.Rand, n int) []impl.Node {
	nodes := make([]impl.Node, n)
	for i := range nodes {
		nodes[i] = impl.Node{Path: drawnName(draw), Inode: draw.Int63n(12) - 2, Blocks: []int64{-1, 0, 1, 2047, 2048, 2049, math.MaxInt64, math.MinInt64}[draw.Intn(8)], Data: drawnName(draw)}
	}
	return nodes
}
