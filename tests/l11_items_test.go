package tests

import (
	"fmt"
	"strings"
	"testing"

	"loop.example/s01525/impl"
)

// Rule 16 at each byte behind the end of a file, at the edges of its blocks.
func TestRule16OfFiles(t *testing.T) {
	t.Parallel()
	for _, size := range []int{0, 1, 63, 64, 65, 128, 511, 512, 513, 576, 577, 2495, 2496, 2497, 2559, 2560} {
		items := map[int64]item{4: sizedFile(1, size)}
		name := fmt.Sprint("a file of ", size)
		checkBroken(t, name, sampleWith(items).disk)
		if size%64 == 0 {
			continue
		}
		for at := int64(size % 64); at < 64; at++ {
			m := sampleWith(items)
			m.put(m.blockAt(4, int64(size/64)), at, 1)
			checkBroken(t, name, m.disk, 16)
		}
		m := sampleWith(items)
		m.put(m.blockAt(4, int64(size/64)), 0, drawn(size%64, 7)...)
		checkBroken(t, "bytes ahead of the end are the file's", m.disk)
	}
}

// The last block is a hole, or lies elsewhere, or its pointer block does: it is read as 0.
func TestRule16OfHoles(t *testing.T) {
	for _, size := range []int{1, 63, 65, 511, 513, 577, 2559} {
		last := int64(size / 64)
		var ahead []int64
		for index := range last {
			ahead = append(ahead, index)
		}
		name := fmt.Sprint("a file of ", size)
		checkBroken(t, name+", all holes", sampleWith(map[int64]item{4: holedFile(1, size)}).disk)
		checkBroken(t, name+", its last block a hole", sampleWith(map[int64]item{4: holedFile(1, size, ahead...)}).disk)
		m := sampleWith(map[int64]item{4: sizedFile(1, size)})
		m.put(m.blockAt(4, last), 63, 1)
		checkBroken(t, name+", with a byte behind its end", m.disk, 16)
		if last < 8 {
			m.change(4, func(i *impl.Inode) { i.Direct[last] = 2 })
		} else {
			m.changeList(4, int(last-8), 2)
		}
		m.setMaps()
		checkBroken(t, name+", its last block elsewhere", m.disk, 6)
	}
	m := sampleWith(map[int64]item{4: sizedFile(1, 600)})
	m.put(m.blockAt(4, 9), 63, 1)
	m.change(4, func(i *impl.Inode) { i.Indirect = 2 })
	m.setMaps()
	checkBroken(t, "its pointer block elsewhere", m.disk, 6)
	// a block that lies further on than the last one's index is none of the file's
	m = sampleWith(map[int64]item{4: holedFile(1, 600, 8)})
	m.put(m.blockAt(4, 8), 24, drawn(40, 9)...)
	checkBroken(t, "index 8 of a file whose last one is 9", m.disk)
}

func TestRule16OfLinks(t *testing.T) {
	for _, size := range []int{1, 2, 63, 64, 65, 192, 193, 223, 224} {
		m := sampleWith(map[int64]item{6: linkTo(1, pathOf(size))})
		name := fmt.Sprint("a link of ", size)
		checkBroken(t, name, m.disk)
		if size%64 == 0 {
			continue
		}
		for at := int64(size % 64); at < 64; at++ {
			checkBroken(t, name, poked(m.disk, m.blockAt(6, int64(size/64))*64+at, 'x'), 16)
		}
	}
	// one that is not reached, and one without a name, count too
	m := sampleWith(map[int64]item{20: dirOf(impl.Entry{Inode: 21, Name: "x"}), 21: linkTo(1, "/x")})
	checkBroken(t, "a link that is not reached", poked(m.disk, m.blockAt(21, 0)*64+2, 'y'), 12, 16)
	m = sample()
	checkBroken(t, "a file without a name", poked(m.disk, m.blockAt(13, 3)*64+8, 'y'), 16)
}

// pathOf is a path of so many bytes, at most 224: no path of 16 names has more.
func pathOf(size int) string {
	if size == 1 {
		return "/"
	}
	path := []byte(strings.Repeat("/abcdefghijklm", 18)[:size])
	if path[size-1] == '/' {
		path[size-1] = 'x'
		path[size-14] = 'x'
		path[size-8] = '/'
	}
	return string(path)
}

func TestRule17(t *testing.T) {
	for names := int64(0); names <= 8; names++ {
		entries := []impl.Entry{{Inode: 3, Name: "z"}}
		for n := range names {
			entries = append(entries, impl.Entry{Inode: 2, Name: fmt.Sprint("n", n)})
		}
		for links := int64(0); links <= 8; links++ {
			for _, it := range []item{fileOf(links, ""), sizedFile(links, 40), linkTo(links, "/n0")} {
				if it.kind == impl.KindLink && links == 0 {
					continue
				}
				d := laid(impl.Geometry{Blocks: 60, Log: 16, Inodes: 8}, map[int64]item{1: dirOf(entries...), 2: it, 3: dirOf()}).disk
				name := fmt.Sprint(names, " names, links ", links)
				switch {
				case names == links:
					checkBroken(t, name, d)
				case names == 0 && links > 0:
					checkBroken(t, name, d, 12, 17)
				default:
					checkBroken(t, name, d, 17)
				}
			}
		}
	}
	// names in several directories, and more of them than a file may have
	var entries []impl.Entry
	for n := range 9 {
		entries = append(entries, impl.Entry{Inode: 4, Name: fmt.Sprint("n", n)})
	}
	checkBroken(t, "nine names", laid(impl.Geometry{Blocks: 60, Log: 16, Inodes: 8}, map[int64]item{1: dirOf(entries...), 4: fileOf(8, "")}).disk, 17)
	checkBroken(t, "a name of the sample's file less", harmed(func(m *made) { m.put(87, 17, 4) }), 17)
}

func TestRule18(t *testing.T) {
	good := []string{"/", "/a", "/a/b", "/nothing/there", "/" + strings.Repeat("x", 13), strings.Repeat("/x", 16), strings.Repeat("/abcdefghijklm", 16), "/...", pathOf(223)}
	for _, path := range good {
		checkBroken(t, "a link to "+path, sampleWith(map[int64]item{6: linkTo(1, path)}).disk)
	}
	bad := []string{"a", "x/a", "//", "/a/", "/a//b", "/.", "/a/..", "/ ", "/a\x00", "/\x7f", "/\xff", strings.Repeat("/x", 17), "/" + strings.Repeat("x", 14), "/a/" + strings.Repeat("x", 100), pathOf(223) + "/", "\x00", "/é", strings.Repeat("/abcdefghijklm", 17), strings.Repeat("/abcdefghijklm", 16) + "n", strings.Repeat("/abcdefghijklm", 18)[:240]}
	for _, path := range bad {
		checkBroken(t, fmt.Sprintf("a link to %q", path), sampleWith(map[int64]item{6: linkTo(1, path)}).disk, 18)
		checkBroken(t, fmt.Sprintf("a file with %q", path), sampleWith(map[int64]item{6: fileOf(1, path)}).disk)
	}
	checkBroken(t, "one that is not reached", sampleWith(map[int64]item{20: dirOf(impl.Entry{Inode: 21, Name: "x"}), 21: linkTo(1, "x")}).disk, 12, 18)
	m := sampleWith(map[int64]item{6: linkTo(1, pathOf(130))})
	for k := range 3 {
		m := sampleWith(map[int64]item{6: linkTo(1, pathOf(130))})
		m.change(6, func(i *impl.Inode) { i.Direct[k] = 700 })
		m.setMaps()
		checkBroken(t, "a link whose block lies elsewhere", m.disk, 6, 18)
	}
	m.put(m.blockAt(6, 1), 0, 0)
	checkBroken(t, "a byte in the middle", m.disk, 18)
}

// freeing is a disk with a file of so many blocks that has no name.
func freeing(g impl.Geometry, links int64, blocks int) *made {
	var indexes []int64
	for index := range int64(blocks) {
		indexes = append(indexes, index)
	}
	if blocks > 8 {
		indexes = indexes[:blocks-1] // its pointer block is one of them
	}
	items := map[int64]item{1: dirOf(), 3: holedFile(links, 2560, indexes...)}
	if links > 0 {
		items[1] = dirOf(impl.Entry{Inode: 3, Name: "f"})
	}
	return laid(g, items)
}

// Rule 19 at the limit and one beyond, on maps of one to four blocks.
func TestRule19(t *testing.T) {
	t.Parallel()
	for _, log := range []int64{16, 19, 20, 40, 43, 44, 64, 160, 188, 191, 192, 512} {
		for _, blocks := range []int64{300, 600, 1100, 1600} {
			g := impl.Geometry{Blocks: blocks, Log: log, Inodes: 5}
			p, ok := plainPlaces(g)
			if !ok {
				continue
			}
			most := log/4 - 2 - p.MapBlocks
			for _, has := range []int64{0, 1, most - 1, most, most + 1, most + 2, 41} {
				if has < 0 || has > 41 || has == 9 {
					continue
				}
				name := fmt.Sprint(g, " with ", has, " blocks, and at most ", most)
				if has > max(most, 0) {
					checkBroken(t, name, freeing(g, 0, int(has)).disk, 19)
				} else {
					checkBroken(t, name, freeing(g, 0, int(has)).disk)
				}
				checkBroken(t, name+", with a name", freeing(g, 1, int(has)).disk)
			}
		}
	}
}

// What has no pointers takes two credits, however large it is; a pointer block is a block; and so is what lies elsewhere.
func TestRule19OfPointers(t *testing.T) {
	g := impl.Geometry{Blocks: 300, Log: 16, Inodes: 5}
	checkBroken(t, "no blocks", laid(g, map[int64]item{1: dirOf(), 2: holedFile(0, 2560)}).disk)
	checkBroken(t, "one block", laid(g, map[int64]item{1: dirOf(), 2: holedFile(0, 2560, 7)}).disk)
	checkBroken(t, "a block and its pointer block", laid(g, map[int64]item{1: dirOf(), 2: holedFile(0, 2560, 8)}).disk, 19)
	m := laid(g, map[int64]item{1: dirOf(), 2: holedFile(0, 2560, 3)})
	m.change(2, func(i *impl.Inode) { i.Direct[0] = 1 })
	checkBroken(t, "a second pointer, to elsewhere", m.disk, 6, 19)
	m = laid(g, map[int64]item{1: dirOf(), 2: holedFile(0, 2560, 8)})
	m.change(2, func(i *impl.Inode) { i.Indirect = 1 })
	m.setMaps()
	checkBroken(t, "a pointer block elsewhere has no numbers", m.disk, 6)
	m = laid(g, map[int64]item{1: dirOf(), 2: holedFile(0, 2560, 8, 9)})
	m.put(m.inodes[2].Indirect, 0, 255)
	m.setMaps()
	checkBroken(t, "one that cannot be read has none", m.disk, 7)
	// a named file that says it has no name
	m = laid(g, map[int64]item{1: dirOf(impl.Entry{Inode: 2, Name: "f"}), 2: sizedFile(0, 1000)})
	checkBroken(t, "named, but with no links", m.disk, 17, 19)
}
