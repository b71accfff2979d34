package tests

import (
	"bytes"
	"slices"
	"sort"

	"loop.example/s01525/impl"
)

// Chapter 11 once more, written down plainly.

// plainVolume is what a reader sees of a disk that has a superblock. Inode i stands at place i.
type plainVolume struct {
	image  []byte
	g      impl.Geometry
	p      impl.Places
	inodes []impl.Inode
	dirs   [][]impl.Entry
	torn   bool // a directory's bytes are not those of entries
}

// toldBy is what some bytes of a kind say; false if they are not those of a valid thing.
func toldBy(k journalKind, b []byte) (any, bool) {
	thing := k.parse(b)
	return thing, k.valid(thing) && bytes.Equal(k.plain(thing), b)
}

// plainImage is what readers see; nil if the disk is not valid.
func plainImage(d impl.Disk) []byte {
	blocks := int64(len(d.Durable) / 64)
	if blocks == 0 || blocks > 2048 || len(d.Durable)%64 != 0 || len(d.Pending) > 600 {
		return nil
	}
	image := slices.Clone(d.Durable)
	for _, w := range d.Pending {
		if w.Block < 0 || w.Block >= blocks || len(w.Data) != 64 {
			return nil
		}
		copy(image[w.Block*64:], w.Data)
	}
	return image
}

func plainVolumeOf(image []byte) (*plainVolume, bool) {
	told, ok := toldBy(geometryKind(), image[:64])
	g := told.(impl.Geometry)
	if !ok || g.Blocks*64 != int64(len(image)) {
		return nil, false
	}
	v := &plainVolume{image: image, g: g}
	v.p, _ = plainPlaces(g)
	v.inodes = make([]impl.Inode, g.Inodes+1)
	for i := int64(1); i <= g.Inodes; i++ {
		if told, ok := toldBy(inodeKind(), v.record(i)); ok {
			v.inodes[i] = told.(impl.Inode)
		}
	}
	v.dirs = make([][]impl.Entry, len(v.inodes))
	for number, i := range v.inodes {
		v.readEntries(number, i)
	}
	return v, true
}

func (v *plainVolume) block(b int64) []byte {
	return v.image[b*64 : b*64+64]
}

func (v *plainVolume) record(i int64) []byte {
	at := v.p.Table*64 + (i-1)*32
	return v.image[at : at+32]
}

func (v *plainVolume) inData(b int64) bool {
	return v.p.Data <= b && b < v.g.Blocks
}

// list are the numbers of the inode's pointer block: none if it cannot be read.
func (v *plainVolume) list(i impl.Inode) []int64 {
	if !v.inData(i.Indirect) {
		return nil
	}
	told, ok := toldBy(pointersKind(), v.block(i.Indirect))
	if !ok {
		return nil
	}
	return told.([]int64)
}

func (v *plainVolume) pointers(i impl.Inode) []int64 {
	numbers := slices.Concat(i.Direct, []int64{i.Indirect}, v.list(i))
	return slices.DeleteFunc(numbers, func(b int64) bool { return b == 0 })
}

// blocks are all bytes of the inode's blocks, those behind its end too.
func (v *plainVolume) blocks(i impl.Inode) []byte {
	var data []byte
	for _, b := range append(append(slices.Clone(i.Direct), v.list(i)...), make([]int64, 40)...)[:40] {
		if v.inData(b) {
			data = append(data, v.block(b)...)
		} else {
			data = append(data, make([]byte, 64)...)
		}
	}
	return data
}

func (v *plainVolume) data(i impl.Inode) []byte {
	return v.blocks(i)[:i.Size]
}

func (v *plainVolume) readEntries(number int, i impl.Inode) {
	if i.Kind != 2 {
		return
	}
	if told, ok := toldBy(dirKind(), v.data(i)); ok {
		v.dirs[number] = told.([]impl.Entry)
	} else {
		v.torn = true
	}
}

// named is how often entries name each number, in the directories that count.
func (v *plainVolume) named(counts func(dir int64) bool) map[int64]int64 {
	named := map[int64]int64{}
	for number, entries := range v.dirs {
		for _, e := range entries {
			if counts(int64(number)) {
				named[e.Inode]++
			}
		}
	}
	return named
}

func (v *plainVolume) leads(e impl.Entry) bool {
	return e.Inode >= 1 && e.Inode <= v.g.Inodes && v.inodes[e.Inode].Kind != 0
}

// way is a place at the end of some names.
type way struct {
	inode int64
	names int
}

// ways are all that lead somewhere, of at most 17 names; those of one number to one inode are one.
func (v *plainVolume) ways() map[way]bool {
	found := map[way]bool{{1, 0}: true}
	next := []way{{1, 0}}
	for len(next) > 0 {
		w := next[0]
		next = next[1:]
		for _, e := range v.dirs[w.inode] {
			below := way{e.Inode, w.names + 1}
			if v.leads(e) && below.names <= 17 && !found[below] {
				found[below] = true
				next = append(next, below)
			}
		}
	}
	return found
}

func (v *plainVolume) reached() map[int64]bool {
	reached := map[int64]bool{}
	for w := range v.ways() {
		reached[w.inode] = true
	}
	return reached
}

// wantedMaps are the two maps as rules 14 and 15 want them.
func (v *plainVolume) wantedMaps() ([]byte, []byte) {
	inodes := plainMap(1, func(i int64) bool { return i >= v.g.Inodes || v.inodes[i+1].Kind != 0 })
	pointed := map[int64]bool{}
	for _, i := range v.inodes {
		for _, b := range v.pointers(i) {
			pointed[b] = true
		}
	}
	return inodes, plainMap(v.p.MapBlocks, func(b int64) bool { return b < v.p.Data || b >= v.g.Blocks || pointed[b] })
}

func plainCheck(d impl.Disk) []int64 {
	image := plainImage(d)
	if image == nil {
		return []int64{1}
	}
	v, ok := plainVolumeOf(image)
	if !ok {
		return []int64{2}
	}
	var told []int64
	for number, breaks := range map[int64]bool{
		3: v.breaks3(), 4: v.breaks4(), 5: v.inodes[1].Kind != 2, 6: v.breaks6(), 7: v.breaks7(), 8: v.breaks8(), 9: v.torn, 10: v.breaks10(), 11: v.breaks11(),
		12: v.breaks12(), 13: v.breaks13(), 14: v.breaks14(), 15: v.breaks15(), 16: v.breaks16(), 17: v.breaks17(), 18: v.breaks18(), 19: v.breaks19(),
	} {
		if breaks {
			told = append(told, number)
		}
	}
	slices.Sort(told)
	return told
}

func (v *plainVolume) breaks3() bool {
	told, ok := toldBy(superKind(), v.block(1))
	return !ok || told.(impl.JSuper).Log != v.g.Log
}

func (v *plainVolume) breaks4() bool {
	for i := int64(1); i <= v.g.Inodes; i++ {
		if _, ok := toldBy(inodeKind(), v.record(i)); !ok {
			return true
		}
	}
	rest := v.image[v.p.Table*64+v.g.Inodes*32 : v.p.Data*64]
	return !bytes.Equal(rest, make([]byte, len(rest)))
}

func (v *plainVolume) breaks6() bool {
	for _, i := range v.inodes {
		for _, b := range v.pointers(i) {
			if !v.inData(b) {
				return true
			}
		}
	}
	return false
}

func (v *plainVolume) breaks7() bool {
	for _, i := range v.inodes {
		if !v.inData(i.Indirect) {
			continue
		}
		list := v.list(i)
		if len(list) != 32 || slices.Max(list) == 0 {
			return true
		}
		for j, b := range list {
			if begins := int64(8+j) * 64; begins >= i.Size && b != 0 || begins < i.Size && b == 0 && i.Kind == 2 {
				return true
			}
		}
	}
	return false
}

func (v *plainVolume) breaks8() bool {
	var pointers []int64
	for _, i := range v.inodes {
		pointers = append(pointers, v.pointers(i)...)
	}
	slices.Sort(pointers)
	return len(slices.Compact(slices.Clone(pointers))) < len(pointers)
}

func (v *plainVolume) breaks10() bool {
	return slices.ContainsFunc(v.dirs, func(entries []impl.Entry) bool {
		return slices.ContainsFunc(entries, func(e impl.Entry) bool { return !v.leads(e) })
	})
}

func inAll(int64) bool { return true }

func (v *plainVolume) breaks11() bool {
	for number, times := range v.named(inAll) {
		if number == 1 || number <= v.g.Inodes && v.inodes[number].Kind == 2 && times > 1 {
			return true
		}
	}
	return false
}

func (v *plainVolume) breaks12() bool {
	reached := v.reached()
	for number, i := range v.inodes {
		if i.Kind != 0 && i.Links != 0 && !reached[int64(number)] {
			return true
		}
	}
	return false
}

func (v *plainVolume) breaks13() bool {
	for w := range v.ways() {
		if w.names > 16 {
			return true
		}
	}
	return false
}

func (v *plainVolume) breaks14() bool {
	inodes, _ := v.wantedMaps()
	return !bytes.Equal(inodes, v.block(v.p.InodeMap))
}

func (v *plainVolume) breaks15() bool {
	_, blocks := v.wantedMaps()
	return !bytes.Equal(blocks, v.image[v.p.BlockMap*64:v.p.Table*64])
}

func (v *plainVolume) breaks16() bool {
	return slices.ContainsFunc(v.inodes, func(i impl.Inode) bool {
		if i.Kind != 1 && i.Kind != 3 || i.Size%64 == 0 {
			return false
		}
		behind := v.blocks(i)[i.Size : (i.Size/64+1)*64]
		return !bytes.Equal(behind, make([]byte, len(behind)))
	})
}

func (v *plainVolume) breaks17() bool {
	named := v.named(inAll)
	for number, i := range v.inodes {
		if (i.Kind == 1 || i.Kind == 3) && named[int64(number)] != i.Links {
			return true
		}
	}
	return false
}

func (v *plainVolume) breaks18() bool {
	return slices.ContainsFunc(v.inodes, func(i impl.Inode) bool { return i.Kind == 3 && plainSplit(string(v.data(i))).Code != 0 })
}

func (v *plainVolume) breaks19() bool {
	return slices.ContainsFunc(v.inodes, func(i impl.Inode) bool {
		credits := 2 + int64(len(v.pointers(i)))
		if credits > 2 {
			credits += v.p.MapBlocks
		}
		return i.Links == 0 && credits > v.g.Log/4
	})
}

// plainObserve goes by what plainCheck tells of the disk.
func plainObserve(d impl.Disk, broken []int64) impl.Observed {
	if len(broken) > 0 {
		return impl.Observed{Code: 5}
	}
	v, _ := plainVolumeOf(plainImage(d))
	nodes := v.below("", 1)
	nodes[0].Path = "/"
	sort.Slice(nodes, func(a, b int) bool { return isAhead(nodes[a].Path, nodes[b].Path) })
	return impl.Observed{Nodes: nodes}
}

func (v *plainVolume) below(path string, number int64) []impl.Node {
	i := v.inodes[number]
	n := impl.Node{Path: path, Kind: i.Kind, Inode: number, Links: i.Links, Size: i.Size, Blocks: int64(len(v.pointers(i)))}
	if i.Kind != 2 {
		n.Data = string(v.data(i))
	}
	nodes := []impl.Node{n}
	for _, e := range v.dirs[number] {
		nodes = append(nodes, v.below(path+"/"+e.Name, e.Inode)...)
	}
	return nodes
}

// plainCount holds each node against all those ahead of it.
func plainCount(nodes []impl.Node) impl.Usage {
	var u impl.Usage
	for i, n := range nodes {
		if len(nodes) > 10000 || slices.ContainsFunc(nodes[:i], func(other impl.Node) bool { return other.Inode == n.Inode }) {
			continue
		}
		u.Inodes++
		if n.Blocks >= 0 && n.Blocks <= 2048 {
			u.Blocks += n.Blocks
		}
	}
	return u
}

// plainRepair goes by what plainCheck tells of the disk.
func plainRepair(d impl.Disk, broken []int64) impl.Repaired {
	has := func(numbers ...int64) bool {
		return slices.ContainsFunc(broken, func(b int64) bool { return slices.Contains(numbers, b) })
	}
	switch {
	case has(1) || len(d.Pending) > 0:
		return impl.Repaired{Code: 1}
	case has(2, 3):
		return impl.Repaired{Code: 4}
	case has(4, 5, 6, 7, 8, 9, 10, 11, 13, 16, 18):
		return impl.Repaired{Code: 5}
	}
	v, _ := plainVolumeOf(plainImage(d))
	reached := v.reached()
	named := v.named(func(dir int64) bool { return reached[dir] })
	r := impl.Repaired{Disk: impl.Disk{Durable: v.image}}
	for number, i := range v.inodes {
		n := int64(number)
		switch {
		case i.Kind == 0:
		case !reached[n]:
			r.Freed = append(r.Freed, n)
			v.inodes[n] = impl.Inode{}
			copy(v.record(n), make([]byte, 32))
		case i.Kind != 2 && named[n] > 8:
			return impl.Repaired{Code: 5}
		case i.Kind != 2:
			v.record(n)[1] = byte(named[n])
		}
	}
	inodes, blocks := v.wantedMaps()
	copy(v.block(v.p.InodeMap), inodes)
	copy(v.image[v.p.BlockMap*64:], blocks)
	return r
}
