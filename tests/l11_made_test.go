package tests

import (
	"bytes"
	"fmt"
	"maps"
	"math/rand"
	"slices"
	"strings"

	"loop.example/s01525/impl"
)

// item is what one inode of a disk that is made by hand is to be; holes are the indexes that get no block.
type item struct {
	kind  int64
	links int64
	data  string
	holes []int64
}

func dirOf(entries ...impl.Entry) item {
	return item{kind: 2, links: 1, data: string(dirKind().plain(entries))}
}

func fileOf(links int64, data string) item {
	return item{kind: 1, links: links, data: data}
}

func linkTo(links int64, path string) item {
	return item{kind: 3, links: links, data: path}
}

// sizedFile has so many bytes, none of them 0, and a block at each of its indexes.
func sizedFile(links int64, size int) item {
	return fileOf(links, strings.Repeat("some bytes of a file, ", 120)[:size])
}

// holedFile has blocks at these indexes alone.
func holedFile(links int64, size int, indexes ...int64) item {
	f := sizedFile(links, size)
	data := []byte(f.data)
	for index := int64(0); index*64 < int64(size); index++ {
		if !slices.Contains(indexes, index) {
			f.holes = append(f.holes, index)
			copy(data[index*64:min(index*64+64, int64(size))], make([]byte, 64))
		}
	}
	f.data = string(data)
	return f
}

// made is a disk that was made by hand, and what stands where on it.
type made struct {
	disk   impl.Disk
	g      impl.Geometry
	p      impl.Places
	inodes map[int64]impl.Inode
	lists  map[int64][]int64
	free   []int64
}

// laid puts items on a new disk, one behind the other, and sets both maps right; which rules they break is not asked.
func laid(g impl.Geometry, items map[int64]item) *made {
	p, _ := plainPlaces(g)
	return laidOver(g, items, runOf(p.Data, int(p.DataBlocks)))
}

// laidOver takes the blocks of the data in another order.
func laidOver(g impl.Geometry, items map[int64]item, order []int64) *made {
	m := &made{disk: impl.Disk{Durable: plainMkfs(g)}, g: g, free: order, inodes: map[int64]impl.Inode{}, lists: map[int64][]int64{}}
	m.p, _ = plainPlaces(g)
	for _, number := range slices.Sorted(maps.Keys(items)) {
		m.lay(number, items[number])
	}
	m.setMaps()
	return m
}

func (m *made) take() int64 {
	b := m.free[0]
	m.free = m.free[1:]
	return b
}

func (m *made) lay(number int64, it item) {
	i := impl.Inode{Kind: it.kind, Links: it.links, Size: int64(len(it.data)), Direct: make([]int64, 8)}
	list := make([]int64, 32)
	for index := int64(0); index*64 < i.Size; index++ {
		if slices.Contains(it.holes, index) {
			continue
		}
		if index >= 8 && i.Indirect == 0 {
			i.Indirect = m.take()
		}
		b := m.take()
		if index < 8 {
			i.Direct[index] = b
		} else {
			list[index-8] = b
		}
		m.put(b, 0, []byte(it.data[index*64:min(index*64+64, i.Size)])...)
	}
	if i.Indirect != 0 {
		m.setList(number, i, list)
	}
	m.setInode(number, i)
}

// put writes over bytes of a block.
func (m *made) put(block int64, at int64, b ...byte) {
	copy(m.disk.Durable[block*64+at:], b)
}

func (m *made) setInode(number int64, i impl.Inode) {
	m.inodes[number] = i
	copy(m.disk.Durable[m.recordAt(number):], inodeKind().plain(i))
}

func (m *made) setList(number int64, i impl.Inode, list []int64) {
	m.lists[number] = list
	m.put(i.Indirect, 0, pointersKind().plain(list)...)
}

// change writes an inode's record anew behind some change.
func (m *made) change(number int64, by func(i *impl.Inode)) {
	i := copied(m.inodes[number])
	by(&i)
	m.setInode(number, i)
}

// changeList sets one number of the inode's pointer block.
func (m *made) changeList(number int64, j int, b int64) {
	list := slices.Clone(m.lists[number])
	list[j] = b
	m.setList(number, m.inodes[number], list)
}

func (m *made) recordAt(number int64) int64 {
	return m.p.Table*64 + (number-1)*32
}

// blockAt is the block that the inode has at this index.
func (m *made) blockAt(number int64, index int64) int64 {
	if index < 8 {
		return m.inodes[number].Direct[index]
	}
	return m.lists[number][index-8]
}

// setMaps sets both maps as the records and the pointers want them.
func (m *made) setMaps() {
	if v, ok := plainVolumeOf(m.disk.Durable); ok {
		inodes, blocks := v.wantedMaps()
		m.put(m.p.InodeMap, 0, inodes...)
		m.put(m.p.BlockMap, 0, blocks...)
	}
}

// turnBit turns a bit of a map over.
func (m *made) turnBit(at, bit int64) {
	m.disk.Durable[at*64+bit/8] ^= 1 << (bit % 8)
}

// poked is the disk with other bytes at a place.
func poked(d impl.Disk, at int64, b ...byte) impl.Disk {
	d.Durable = slices.Clone(d.Durable)
	copy(d.Durable[at:], b)
	return d
}

// sampleItems are a tree with all that a whole one may have: files of several names, with holes and of all their blocks, links,
// a directory with a pointer block, and a file (13) that has no name.
func sampleItems() map[int64]item {
	items := map[int64]item{
		1:  dirOf(impl.Entry{Inode: 2, Name: "a"}, impl.Entry{Inode: 3, Name: "f"}, impl.Entry{Inode: 5, Name: "big"}, impl.Entry{Inode: 6, Name: "l"}, impl.Entry{Inode: 7, Name: "d"}),
		2:  dirOf(impl.Entry{Inode: 4, Name: "g"}, impl.Entry{Inode: 3, Name: "f"}),
		3:  sizedFile(2, 70),
		4:  holedFile(1, 600, 9),
		5:  sizedFile(1, 2560),
		6:  linkTo(1, "/a/g"),
		8:  sizedFile(8, 0),
		9:  sizedFile(8, 1),
		10: sizedFile(8, 63),
		11: sizedFile(8, 64),
		12: linkTo(4, "/d/n35"),
		13: holedFile(0, 200, 0, 2, 3),
	}
	var entries []impl.Entry
	for n := range int64(36) {
		entries = append(entries, impl.Entry{Inode: 8 + n/8, Name: fmt.Sprintf("n%02d", n)})
	}
	items[7] = dirOf(entries...)
	return items
}

var sampleGeometry = impl.Geometry{Blocks: 600, Log: 64, Inodes: 31}

// sample is a disk that is whole, with maps of two blocks, and room for an inode behind the last one.
func sample() *made {
	return laid(sampleGeometry, sampleItems())
}

// sampleWith is the sample with other items, or more of them.
func sampleWith(more map[int64]item) *made {
	items := sampleItems()
	maps.Copy(items, more)
	return laid(sampleGeometry, items)
}

// withEntry is the sample with one entry more in the directory a.
func withEntry(inode int64, name string) *made {
	return sampleWith(map[int64]item{2: dirOf(impl.Entry{Inode: 4, Name: "g"}, impl.Entry{Inode: 3, Name: "f"}, impl.Entry{Inode: inode, Name: name})})
}

// little is the tree of the sample in small, on the least number of blocks that it needs.
func little() *made {
	return laid(impl.Geometry{Blocks: 34, Log: 16, Inodes: 7}, map[int64]item{
		1: dirOf(impl.Entry{Inode: 3, Name: "f"}, impl.Entry{Inode: 2, Name: "a"}, impl.Entry{Inode: 5, Name: "l"}),
		2: dirOf(impl.Entry{Inode: 4, Name: "g"}, impl.Entry{Inode: 3, Name: "f!"}),
		3: sizedFile(2, 70),
		4: holedFile(1, 600, 8),
		5: linkTo(1, "/a"),
		6: holedFile(0, 65, 1),
	})
}

// drawnItems are a whole tree within so many inodes and blocks.
func drawnItems(draw *rand.Rand, g impl.Geometry) map[int64]item {
	p, _ := plainPlaces(g)
	t := treeDraw{draw: draw, left: p.DataBlocks, entries: map[int64][]impl.Entry{1: nil}, depth: map[int64]int{1: 0}, items: map[int64]item{}}
	for _, i := range draw.Perm(int(g.Inodes) - 1)[:draw.Intn(int(g.Inodes))] {
		t.add(int64(i)+2, g, p)
	}
	for dir, entries := range t.entries {
		t.items[dir] = dirOf(entries...)
	}
	return t.items
}

// treeDraw is a tree that is being drawn; left is how many blocks are.
type treeDraw struct {
	draw    *rand.Rand
	left    int64
	entries map[int64][]impl.Entry
	depth   map[int64]int
	items   map[int64]item
}

// need is what an item of so many bytes takes at most, with its pointer block.
func (t *treeDraw) need(size int64) int64 {
	need := (size + 63) / 64
	if size > 512 {
		need++
	}
	return need
}

func (t *treeDraw) add(number int64, g impl.Geometry, p impl.Places) {
	switch t.draw.Intn(6) {
	case 0, 1:
		if parents := t.name(number, 1); len(parents) == 1 && t.depth[parents[0]] < 15 {
			t.entries[number], t.depth[number] = nil, t.depth[parents[0]]+1
		} else if len(parents) == 1 {
			t.items[number] = fileOf(1, "")
		}
	case 2:
		path := strings.Repeat("/"+drawnName(t.draw), 1+t.draw.Intn(16))
		if plainSplit(path).Code != 0 || t.left < 4 {
			return
		}
		t.left -= t.need(int64(len(path)))
		if names := t.name(number, 1+t.draw.Intn(8)); len(names) > 0 {
			t.items[number] = linkTo(int64(len(names)), path)
		}
	default:
		t.addFile(number, g, p)
	}
}

func (t *treeDraw) addFile(number int64, g impl.Geometry, p impl.Places) {
	size := t.draw.Intn([]int{65, 600, 2561}[t.draw.Intn(3)])
	var indexes []int64
	for index := int64(0); index*64 < int64(size); index++ {
		if t.draw.Intn(3) > 0 {
			indexes = append(indexes, index)
		}
	}
	if t.need(int64(size)) > t.left {
		return
	}
	t.left -= t.need(int64(size))
	links := int64(len(t.name(number, t.draw.Intn(9))))
	if links == 0 && plainNeed(indexes)+2+p.MapBlocks > g.Log/4 {
		indexes = nil
	}
	t.items[number] = holedFile(links, size, indexes...)
}

// name gives an inode so many names, or as many as there is room for, and tells the directories that have them.
func (t *treeDraw) name(number int64, times int) []int64 {
	dirs := slices.Sorted(maps.Keys(t.entries))
	var parents []int64
	for range times {
		dir := dirs[t.draw.Intn(len(dirs))]
		name := drawnName(t.draw)
		grows := t.need(int64(len(t.entries[dir])+1)*16) - t.need(int64(len(t.entries[dir]))*16)
		if len(t.entries[dir]) == 160 || plainFind(t.entries[dir], name) >= 0 || grows > t.left {
			continue
		}
		t.left -= grows
		t.entries[dir] = append(t.entries[dir], impl.Entry{Inode: number, Name: name})
		parents = append(parents, dir)
	}
	return parents
}

// drawnSystem is a whole disk with a drawn tree whose blocks lie anywhere.
func drawnSystem(draw *rand.Rand) *made {
	g := drawnGeometry(draw)
	g.Inodes = 1 + draw.Int63n(min(g.Inodes, 60))
	if draw.Intn(2) == 0 {
		g.Log = 16 + draw.Int63n(min(g.Log, 60)-15)
	}
	p, _ := plainPlaces(g)
	order := runOf(p.Data, int(p.DataBlocks))
	draw.Shuffle(len(order), func(i, j int) { order[i], order[j] = order[j], order[i] })
	return laidOver(g, drawnItems(draw, g), order)
}

// sameBlocks asks whether two disks have the same bytes, and nothing pending.
func sameBlocks(a, b impl.Disk) bool {
	return bytes.Equal(a.Durable, b.Durable) && len(a.Pending) == 0 && len(b.Pending) == 0
}
