package tests

import (
	"fmt"
	"math/rand"
	"slices"
	"strings"
	"testing"

	"loop.example/s01525/impl"
)

// harmed is the sample behind a change.
func harmed(by func(m *made)) impl.Disk {
	m := sample()
	by(m)
	return m.disk
}

// harmedMaps is the sample behind a change, with both maps set right again.
func harmedMaps(by func(m *made)) impl.Disk {
	m := sample()
	by(m)
	m.setMaps()
	return m.disk
}

// The sample's blocks stand where they were reckoned to stand by hand, so that what is changed is what is meant.
func TestSampleByHand(t *testing.T) {
	m := sample()
	if m.p != (impl.Places{InodeMap: 66, BlockMap: 67, MapBlocks: 2, Table: 69, TableBlocks: 16, Data: 85, DataBlocks: 515}) {
		t.Fatal(m.p)
	}
	if m.blockAt(1, 0) != 85 || m.blockAt(3, 1) != 89 || m.inodes[4].Indirect != 90 || m.blockAt(4, 9) != 91 || m.inodes[5].Indirect != 100 || m.inodes[7].Indirect != 142 || m.free[0] != 151 {
		t.Fatal(m.inodes, m.lists)
	}
}

func TestRules1And2(t *testing.T) {
	other := func(g impl.Geometry) func(m *made) {
		return func(m *made) { m.put(0, 0, geometryKind().plain(g)...) }
	}
	checkBroken(t, "a byte of the superblock", harmed(func(m *made) { m.put(0, 20, 1) }), 2)
	checkBroken(t, "no superblock", harmed(func(m *made) { m.put(0, 0, make([]byte, 64)...) }), 2)
	checkBroken(t, "a superblock of a block less", harmed(other(impl.Geometry{Blocks: 599, Log: 64, Inodes: 31})), 2)
	checkBroken(t, "a superblock of a block more", harmed(other(impl.Geometry{Blocks: 601, Log: 64, Inodes: 31})), 2)
	checkBroken(t, "one of a geometry that is none", harmed(other(impl.Geometry{Blocks: 600, Log: 15, Inodes: 31})), 2)
	checkBroken(t, "one inode more", harmed(other(impl.Geometry{Blocks: 600, Log: 64, Inodes: 32})), 14)
	checkBroken(t, "one inode less, and a block of data more", harmed(other(impl.Geometry{Blocks: 600, Log: 64, Inodes: 30})), 14, 15)
	checkBroken(t, "nothing else is told", harmed(func(m *made) {
		m.put(0, 0, 1)
		m.put(1, 0, make([]byte, 64*599)...)
	}), 2)
	m := sample()
	longer := impl.Disk{Durable: append(slices.Clone(m.disk.Durable), make([]byte, 64)...)}
	checkBroken(t, "a disk of a block more", longer, 2)
	checkBroken(t, "a disk of a block less", impl.Disk{Durable: m.disk.Durable[:599*64]}, 2)
	checkBroken(t, "a byte less", impl.Disk{Durable: m.disk.Durable[:600*64-1]}, 1)
	checkBroken(t, "a write of no block", impl.Disk{Durable: m.disk.Durable, Pending: []impl.Write{{Block: 600, Data: make([]byte, 64)}}}, 1)
	checkBroken(t, "a write of no data", impl.Disk{Durable: m.disk.Durable, Pending: []impl.Write{{Block: 300}}}, 1)
	checkBroken(t, "no disk", impl.Disk{}, 1)
}

func TestRule3(t *testing.T) {
	journal := func(j impl.JSuper) impl.Disk {
		return harmed(func(m *made) { m.put(1, 0, superKind().plain(j)...) })
	}
	for _, start := range []int64{0, 1, 63, 64} {
		for _, seq := range []int64{1, 2, 4294967295} {
			checkBroken(t, "any start and number", journal(impl.JSuper{Log: 64, Start: start, Seq: seq}))
		}
	}
	for _, log := range []int64{16, 63, 65, 512} {
		checkBroken(t, "another log", journal(impl.JSuper{Log: log, Seq: 1}), 3)
	}
	checkBroken(t, "a start that is none", journal(impl.JSuper{Log: 64, Start: 65, Seq: 1}), 3)
	checkBroken(t, "a number that is none", journal(impl.JSuper{Log: 64}), 3)
	checkBroken(t, "no superblock", harmed(func(m *made) { m.put(1, 0, make([]byte, 64)...) }), 3)
	checkBroken(t, "the other superblock", harmed(func(m *made) { m.put(1, 0, m.disk.Durable[:64]...) }), 3)
	for at := range int64(64) {
		checkBroken(t, "a byte of it", harmed(func(m *made) { m.disk.Durable[64+at] ^= 4 }), 3)
	}
}

func TestRule4(t *testing.T) {
	for at := range int64(32) {
		checkBroken(t, "the record of a free inode", harmed(func(m *made) { m.put(69, 19*32+at, 7) }), 4)
		checkBroken(t, "what stands behind the last inode", harmed(func(m *made) { m.put(69, 31*32+at, 1) }), 4)
	}
	checkBroken(t, "a record behind the last inode", harmed(func(m *made) { m.put(69, 31*32, m.disk.Durable[m.recordAt(8):][:32]...) }), 4)
	checkBroken(t, "the last inode's record", harmed(func(m *made) { m.put(69, 30*32+31, 1) }), 4)
	spare := func(number int64) func(m *made) {
		return func(m *made) { m.disk.Durable[m.recordAt(number)+31] = 1 }
	}
	checkBroken(t, "that of a file", harmed(spare(5)), 4, 10, 14, 15)
	checkBroken(t, "that of a file, which counts as free", harmedMaps(spare(5)), 4, 10)
	checkBroken(t, "that of one without a name", harmedMaps(spare(13)), 4)
	checkBroken(t, "that of a directory", harmed(spare(2)), 4, 10, 12, 14, 15, 17)
	checkBroken(t, "that of a file of eight names", harmedMaps(spare(8)), 4, 10)
	for name, by := range map[string]func(i *impl.Inode){
		"links":     func(i *impl.Inode) { i.Links = 9 },
		"a kind":    func(i *impl.Inode) { i.Kind = 4 },
		"a size":    func(i *impl.Inode) { i.Size = 2561 },
		"a pointer": func(i *impl.Inode) { i.Direct[0] = 2048 },
		"behind":    func(i *impl.Inode) { i.Size = 512 },
		"indirect":  func(i *impl.Inode) { i.Indirect = 2048 },
	} {
		checkBroken(t, name+" that is none", harmedMaps(func(m *made) { m.change(5, by) }), 4, 10)
	}
	even := laid(impl.Geometry{Blocks: 60, Log: 16, Inodes: 8}, map[int64]item{1: dirOf()})
	even.put(even.p.Data, 0, 1)
	checkBroken(t, "a full table: what lies behind it is data", even.disk)
	checkBroken(t, "the last record of a full table", poked(even.disk, even.recordAt(8)+31, 1), 4)
}

func TestRule5(t *testing.T) {
	kind := func(kind int64) impl.Disk {
		return harmed(func(m *made) { m.change(1, func(i *impl.Inode) { i.Kind = kind }) })
	}
	checkBroken(t, "the root is a file", kind(impl.KindFile), 5, 12, 17)
	checkBroken(t, "the root is a link", kind(impl.KindLink), 5, 12, 17, 18)
	checkBroken(t, "the root is no inode", kind(4), 4, 5, 12, 14, 15, 17)
	free := func(m *made) { m.put(69, 0, make([]byte, 32)...) }
	checkBroken(t, "the root is free", harmed(free), 5, 12, 14, 15, 17)
	empty := laid(impl.Geometry{Blocks: 60, Log: 16, Inodes: 8}, map[int64]item{1: dirOf()})
	empty.put(empty.p.Table, 0, 0, 0)
	empty.setMaps()
	checkBroken(t, "nothing but that the root is free", empty.disk, 5)
	file := laid(impl.Geometry{Blocks: 60, Log: 16, Inodes: 8}, map[int64]item{1: fileOf(0, "")})
	checkBroken(t, "nothing but that the root is a file without a name", file.disk, 5)
}

func TestRule6(t *testing.T) {
	t.Parallel()
	for _, block := range []int64{1, 2, 66, 69, 84, 600, 601, 1024, 2047} {
		for k := range 8 {
			checkBroken(t, "a pointer elsewhere", harmed(func(m *made) { m.change(5, func(i *impl.Inode) { i.Direct[k] = block }) }), 6, 15)
		}
		for j := range 32 {
			checkBroken(t, "one in a pointer block", harmedMaps(func(m *made) { m.changeList(5, j, block) }), 6)
		}
		checkBroken(t, "one to a pointer block", harmedMaps(func(m *made) { m.change(4, func(i *impl.Inode) { i.Indirect = block }) }), 6)
		checkBroken(t, "a directory's one to a pointer block", harmedMaps(func(m *made) { m.change(7, func(i *impl.Inode) { i.Indirect = block }) }), 6, 9, 12, 17)
		checkBroken(t, "a directory's", harmedMaps(func(m *made) { m.change(2, func(i *impl.Inode) { i.Direct[0] = block }) }), 6, 9, 12, 17)
		checkBroken(t, "a link's", harmedMaps(func(m *made) { m.change(6, func(i *impl.Inode) { i.Direct[0] = block }) }), 6, 18)
		checkBroken(t, "one of a file without a name", harmedMaps(func(m *made) { m.change(13, func(i *impl.Inode) { i.Direct[0] = block }) }), 6)
		checkBroken(t, "one of a file that is not reached", harmedMaps(func(m *made) {
			m.setInode(20, inodeOf(1, 1, 60, block))
		}), 6, 12, 17)
	}
	for _, block := range []int64{151, 599} {
		checkBroken(t, "any block of the data", harmedMaps(func(m *made) { m.change(5, func(i *impl.Inode) { i.Direct[0] = block }) }))
	}
}

// Rule 7 says nothing of a pointer block that lies elsewhere, whatever its bytes are.
func TestRule7Elsewhere(t *testing.T) {
	for _, block := range []int64{1, 68, 84, 600, 2047} {
		for _, number := range []int64{4, 5} {
			m := sample()
			m.change(number, func(i *impl.Inode) { i.Indirect = block })
			m.setMaps()
			if number == 4 {
				checkBroken(t, "a file with a hole", m.disk, 6)
			} else if got := checkSeen(t, "a full file", m.disk); !slices.Equal(got, []int64{6}) {
				t.Error(got)
			}
		}
	}
}

func TestRule7OfFiles(t *testing.T) {
	t.Parallel()
	for _, size := range []int{513, 575, 576, 577, 640, 1000, 2496, 2497, 2560} {
		last := int64((size - 1) / 64)
		for j := range int64(32) {
			m := sampleWith(map[int64]item{4: holedFile(1, size, last)})
			if last < 8 {
				t.Fatal(size)
			}
			block := m.free[0]
			m.put(block, 0, make([]byte, 64)...)
			m.changeList(4, int(j), block)
			m.setMaps()
			name := fmt.Sprint("a file of ", size, ", number ", j)
			if 8+j <= last {
				checkBroken(t, name, m.disk)
				m.setList(4, m.inodes[4], make([]int64, 32))
				m.setMaps()
				checkBroken(t, "all 0", m.disk, 7)
				continue
			}
			checkBroken(t, name, m.disk, 7)
		}
	}
}

func TestRule7OfDirectories(t *testing.T) {
	for _, many := range []int{33, 36, 37, 100, 159, 160} {
		entries := manyEntries(many)
		for i := range entries {
			entries[i].Inode = 14 + int64(i/8)
		}
		items := map[int64]item{1: dirOf(entries...)}
		for number := int64(14); number <= 14+int64(many-1)/8; number++ {
			links := min(8, int64(many)-8*(number-14))
			items[number] = sizedFile(links, 5)
		}
		g := impl.Geometry{Blocks: 600, Log: 64, Inodes: 40}
		checkBroken(t, "a large directory", laid(g, items).disk)
		last := (int64(many)*16 - 1) / 64
		for j := range int64(32) {
			m := laid(g, items)
			if 8+j <= last {
				m.changeList(1, int(j), 0)
				m.setMaps()
				checkBroken(t, fmt.Sprint("a hole in a directory of ", many, ", number ", j), m.disk, 7, 9, 12, 17)
			} else {
				m.changeList(1, int(j), m.free[0])
				m.setMaps()
				checkBroken(t, fmt.Sprint("more than a directory of ", many, ", number ", j), m.disk, 7)
			}
		}
	}
}

// A pointer block with a number that is too large has no pointers at all.
func TestRule7OfNumbers(t *testing.T) {
	t.Parallel()
	for j := range int64(32) {
		for _, b := range []int64{2048, 2049, 4096, 32768, 65535} {
			by := func(number int64) func(m *made) {
				return func(m *made) { m.put(m.inodes[number].Indirect, 2*j, byte(b/256), byte(b%256)) }
			}
			checkBroken(t, "a file", harmedMaps(by(5)), 7)
			checkBroken(t, "a file with holes", harmedMaps(by(4)), 7)
			checkBroken(t, "a directory", harmedMaps(by(7)), 7, 9, 12, 17)
			checkBroken(t, "the bits of its blocks are on", harmed(by(5)), 7, 15)
		}
		checkBroken(t, "the largest that is one", harmedMaps(func(m *made) { m.changeList(5, int(j), 2047) }), 6)
	}
	// what stands behind such a number, elsewhere or twice, is nothing
	checkBroken(t, "no pointers", harmedMaps(func(m *made) {
		list := slices.Repeat([]int64{1}, 32)
		list[31] = 65535
		m.put(m.inodes[5].Indirect, 0, pointersKind().plain(list)...)
	}), 7)
	// a file whose last block is read as 0
	checkBroken(t, "no bytes behind the end", harmedMaps(func(m *made) {
		m.change(5, func(i *impl.Inode) { i.Size = 2559 })
		m.put(m.inodes[5].Indirect, 0, 255)
	}), 7)
}

func TestRule8(t *testing.T) {
	direct := func(number int64, k int, block int64) func(m *made) {
		return func(m *made) { m.change(number, func(i *impl.Inode) { i.Direct[k] = block }) }
	}
	for name, by := range map[string]func(m *made){
		"twice in one record":               direct(5, 7, 92),
		"in two records":                    direct(5, 7, 88),
		"a file's block and a directory's":  direct(5, 0, 85),
		"a file's block and a link's":       direct(5, 3, 133),
		"a file's block and a list":         direct(5, 0, 90),
		"a file's own list":                 direct(5, 0, 100),
		"one in a list and one in a record": func(m *made) { m.changeList(5, 31, 92) },
		"twice in one list":                 func(m *made) { m.changeList(5, 31, 101) },
		"a list in itself":                  func(m *made) { m.changeList(5, 0, 100) },
		"in two lists":                      func(m *made) { m.changeList(5, 5, 91) },
		"a file that has no name":           direct(13, 0, 92),
	} {
		checkBroken(t, name, harmedMaps(by), 8)
	}
	checkBroken(t, "the bits of the blocks that were", harmed(direct(5, 7, 92)), 8, 15)
	checkBroken(t, "two files with one list", harmedMaps(func(m *made) {
		m.change(4, func(i *impl.Inode) { i.Indirect = 100; i.Size = 2560 })
	}), 8)
	checkBroken(t, "a copy of a file that is not reached", harmedMaps(func(m *made) { m.setInode(20, m.inodes[5]) }), 8, 12, 17)
	for _, block := range []int64{1, 84, 600, 2047} {
		checkBroken(t, "two pointers to one place elsewhere", harmedMaps(func(m *made) {
			m.change(5, func(i *impl.Inode) { i.Direct[0], i.Direct[1] = block, block })
		}), 6, 8)
		checkBroken(t, "two lists elsewhere", harmedMaps(func(m *made) {
			m.change(5, func(i *impl.Inode) { i.Indirect = block })
			m.change(4, func(i *impl.Inode) { i.Indirect = block })
		}), 6, 8)
	}
}

func TestRule9(t *testing.T) {
	for name, by := range map[string]func(m *made){
		"a stroke in a name":   func(m *made) { m.put(87, 3, '/') },
		"no name":              func(m *made) { m.put(87, 2, 0, 0) },
		"a longer name":        func(m *made) { m.put(87, 2, 2) },
		"a byte behind a name": func(m *made) { m.put(87, 15, 1) },
		"two of one name":      func(m *made) { m.put(87, 3, 'f') },
		"inode 0":              func(m *made) { m.put(87, 1, 0) },
		"inode 257":            func(m *made) { m.put(87, 0, 1, 1) },
		"an entry less":        func(m *made) { m.put(87, 16, make([]byte, 16)...) },
		"one more in its size": func(m *made) { m.change(2, func(i *impl.Inode) { i.Size = 48 }) },
	} {
		checkBroken(t, name, harmed(by), 9, 12, 17)
	}
	checkBroken(t, "bytes behind a directory's end", harmed(func(m *made) { m.put(87, 32, drawn(32, 4)...) }))
	checkBroken(t, "an empty directory", harmedMaps(func(m *made) { m.change(2, func(i *impl.Inode) { *i = inodeOf(2, 1, 0, 0) }) }), 12, 17)
	checkBroken(t, "one that is not reached", sampleWith(map[int64]item{20: {kind: 2, links: 1, data: strings.Repeat("x", 16)}}).disk, 9, 12)
	// a directory of two blocks: what is wrong in the second one counts for both
	checkBroken(t, "the last entry of the root", harmed(func(m *made) { m.put(86, 2, 14) }), 9, 12, 17)
	checkBroken(t, "one in a pointer block's block", harmed(func(m *made) { m.put(143, 63, 1) }), 9, 12, 17)
}

func TestRule10(t *testing.T) {
	for _, inode := range []int64{14, 30, 31, 32, 33, 255, 256} {
		checkBroken(t, "an entry that leads nowhere", withEntry(inode, "x").disk, 10)
	}
	checkBroken(t, "one to a record that is none", poked(withEntry(14, "x").disk, 69*64+13*32, 9), 4, 10)
	checkBroken(t, "one of a directory that is not reached", sampleWith(map[int64]item{20: dirOf(impl.Entry{Inode: 21, Name: "x"})}).disk, 10, 12)
	checkBroken(t, "the last inode", sampleWith(map[int64]item{2: dirOf(impl.Entry{Inode: 4, Name: "g"}, impl.Entry{Inode: 3, Name: "f"}, impl.Entry{Inode: 31, Name: "x"}), 31: dirOf()}).disk)
	// all 256 inodes are there
	g := impl.Geometry{Blocks: 600, Log: 64, Inodes: 256}
	items := map[int64]item{1: dirOf(impl.Entry{Inode: 256, Name: "x"}, impl.Entry{Inode: 255, Name: "y"}), 255: dirOf(), 256: linkTo(1, "/")}
	checkBroken(t, "the largest number", laid(g, items).disk)
	delete(items, 256)
	checkBroken(t, "the largest number is free", laid(g, items).disk, 10)
}

func TestRule11(t *testing.T) {
	checkBroken(t, "two entries for a directory", withEntry(7, "x").disk, 11)
	checkBroken(t, "two in one directory", sampleWith(map[int64]item{
		1:  dirOf(impl.Entry{Inode: 2, Name: "a"}, impl.Entry{Inode: 3, Name: "f"}, impl.Entry{Inode: 5, Name: "big"}, impl.Entry{Inode: 6, Name: "l"}, impl.Entry{Inode: 7, Name: "d"}, impl.Entry{Inode: 20, Name: "x"}, impl.Entry{Inode: 20, Name: "y"}),
		20: dirOf(),
	}).disk, 11)
	checkBroken(t, "an entry for the root", withEntry(1, "x").disk, 11, 13)
	checkBroken(t, "a directory in itself", withEntry(2, "x").disk, 11, 13)
	checkBroken(t, "one that is not reached names one that is", sampleWith(map[int64]item{20: dirOf(impl.Entry{Inode: 2, Name: "x"})}).disk, 11, 12)
	checkBroken(t, "one that is not reached names the root", sampleWith(map[int64]item{20: dirOf(impl.Entry{Inode: 1, Name: "x"})}).disk, 11, 12)
	checkBroken(t, "two that are not reached name one", sampleWith(map[int64]item{
		20: dirOf(impl.Entry{Inode: 22, Name: "x"}), 21: dirOf(impl.Entry{Inode: 22, Name: "x"}), 22: dirOf(),
	}).disk, 11, 12)
	root := laid(impl.Geometry{Blocks: 60, Log: 16, Inodes: 8}, map[int64]item{1: fileOf(1, ""), 2: dirOf(impl.Entry{Inode: 1, Name: "x"})})
	checkBroken(t, "a root that is a file has no name either", root.disk, 5, 11, 12)
}

// Directories that name one another in a ring.
func TestRingsOfDirectories(t *testing.T) {
	checkBroken(t, "a ring of one, not reached", sampleWith(map[int64]item{20: dirOf(impl.Entry{Inode: 20, Name: "x"})}).disk, 12)
	ring := map[int64]item{20: dirOf(impl.Entry{Inode: 21, Name: "x"}), 21: dirOf(impl.Entry{Inode: 22, Name: "x"}), 22: dirOf(impl.Entry{Inode: 20, Name: "x"})}
	checkBroken(t, "a ring of three, not reached", sampleWith(ring).disk, 12)
	ring[2] = dirOf(impl.Entry{Inode: 4, Name: "g"}, impl.Entry{Inode: 3, Name: "f"}, impl.Entry{Inode: 21, Name: "x"})
	checkBroken(t, "a ring of three that is reached", sampleWith(ring).disk, 11, 13)
	// every directory names all the others, and itself: there are more ways than could be gone one by one
	g := impl.Geometry{Blocks: 2048, Log: 16, Inodes: 40}
	items := map[int64]item{}
	for number := int64(1); number <= 40; number++ {
		var entries []impl.Entry
		for other := int64(1); other <= 40; other++ {
			entries = append(entries, impl.Entry{Inode: other, Name: fmt.Sprint("n", other)})
		}
		items[number] = dirOf(entries...)
	}
	checkBroken(t, "all in all", laid(g, items).disk, 11, 13)
}

func TestRule12(t *testing.T) {
	checkBroken(t, "a directory", sampleWith(map[int64]item{20: dirOf()}).disk, 12)
	checkBroken(t, "a file", sampleWith(map[int64]item{20: fileOf(1, "")}).disk, 12, 17)
	checkBroken(t, "a link", sampleWith(map[int64]item{20: linkTo(1, "/")}).disk, 12, 17)
	checkBroken(t, "a file without a name", sampleWith(map[int64]item{20: fileOf(0, "")}).disk)
	checkBroken(t, "the last inode", sampleWith(map[int64]item{31: dirOf()}).disk, 12)
	checkBroken(t, "a file in a directory that is not reached", sampleWith(map[int64]item{20: dirOf(impl.Entry{Inode: 21, Name: "x"}), 21: sizedFile(1, 100)}).disk, 12)
	checkBroken(t, "names in one count too", sampleWith(map[int64]item{20: dirOf(impl.Entry{Inode: 4, Name: "x"})}).disk, 12, 17)
	more := sampleItems()[4]
	more.links = 2
	checkBroken(t, "a name there, and one that is reached", sampleWith(map[int64]item{4: more, 20: dirOf(impl.Entry{Inode: 4, Name: "x"})}).disk, 12)
	checkBroken(t, "a file without a name that is named", withEntry(13, "x").disk, 17)
}

// chain is directories one in the other, so many of them below the root, and an item in the last one.
func chain(depth int, last *item) map[int64]item {
	items := map[int64]item{}
	for number := int64(1); number <= int64(depth); number++ {
		items[number] = dirOf(impl.Entry{Inode: number + 1, Name: "d"})
	}
	items[int64(depth)+1] = dirOf()
	if last != nil {
		items[int64(depth)+1] = dirOf(impl.Entry{Inode: 100, Name: "x"})
		items[100] = *last
	}
	return items
}

func TestRule13(t *testing.T) {
	g := impl.Geometry{Blocks: 400, Log: 16, Inodes: 100}
	file, link, dir := sizedFile(1, 30), linkTo(1, "/"), dirOf()
	for depth := 1; depth <= 16; depth++ {
		checkBroken(t, fmt.Sprint(depth, " directories"), laid(g, chain(depth, nil)).disk)
		for _, last := range []*item{&file, &link, &dir} {
			if depth < 16 {
				checkBroken(t, fmt.Sprint("something below ", depth), laid(g, chain(depth, last)).disk)
			} else {
				checkBroken(t, "something at a path of 17 names", laid(g, chain(depth, last)).disk, 13)
			}
		}
	}
	checkBroken(t, "17 directories", laid(g, chain(17, nil)).disk, 13)
	for depth := 18; depth <= 40; depth++ {
		checkBroken(t, fmt.Sprint(depth, " directories"), laid(g, chain(depth, nil)).disk, 12, 13)
	}
	checkBroken(t, "a file at a path of 18 names is not reached", laid(g, chain(17, &file)).disk, 12, 13)
	// the same file with a short path too
	items := chain(17, &file)
	items[100] = sizedFile(2, 30)
	items[1] = dirOf(impl.Entry{Inode: 2, Name: "d"}, impl.Entry{Inode: 100, Name: "x"})
	checkBroken(t, "a file with two paths", laid(g, items).disk, 13)
	items[100] = sizedFile(0, 30)
	checkBroken(t, "a file that says it has no name", laid(g, items).disk, 13, 17)
	items[1] = dirOf(impl.Entry{Inode: 2, Name: "d"})
	checkBroken(t, "a file that says it has no name, and is not reached", laid(g, items).disk, 13, 17)
}

// An inode is reached on each way: a file's long path counts beside its short one, and a directory's long way too.
func TestRule13OnEachWay(t *testing.T) {
	g := impl.Geometry{Blocks: 400, Log: 16, Inodes: 100}
	two := sizedFile(2, 30)
	items := chain(16, &two)
	items[1] = dirOf(impl.Entry{Inode: 2, Name: "d"}, impl.Entry{Inode: 100, Name: "x"})
	checkBroken(t, "a file with a short and a long path", laid(g, items).disk, 13)
	// directory 50 is named by the root and by the one at depth 15: what it has lies at 2 and at 17
	items = chain(15, nil)
	items[16] = dirOf(impl.Entry{Inode: 50, Name: "x"})
	items[50] = dirOf(impl.Entry{Inode: 51, Name: "y"})
	items[51] = sizedFile(1, 30)
	checkBroken(t, "a long way alone", laid(g, items).disk, 13)
	items[1] = dirOf(impl.Entry{Inode: 50, Name: "x"}, impl.Entry{Inode: 2, Name: "d"})
	checkBroken(t, "a short way ahead of a long one", laid(g, items).disk, 11, 13)
	items[1] = dirOf(impl.Entry{Inode: 2, Name: "d"}, impl.Entry{Inode: 50, Name: "x"})
	checkBroken(t, "a short way behind a long one", laid(g, items).disk, 11, 13)
	items[50] = dirOf(impl.Entry{Inode: 90, Name: "y"})
	delete(items, 51)
	checkBroken(t, "an entry that leads nowhere has no path", laid(g, items).disk, 10, 11)
	items[50] = dirOf()
	checkBroken(t, "a directory on two ways that are short enough", laid(g, items).disk, 11)
}

func TestRules14And15(t *testing.T) {
	t.Parallel()
	m := sample()
	for bit := range int64(512) {
		d := harmed(func(m *made) { m.turnBit(m.p.InodeMap, bit) })
		if got := impl.Check(d); !slices.Equal(got, []int64{14}) {
			t.Error("the bit of an inode:", bit, got)
		}
		if r := impl.Repair(d); r.Code != 0 || !slices.Equal(r.Freed, []int64{13}) || len(impl.Check(r.Disk)) != 0 {
			t.Error("its repair:", bit, r.Code, r.Freed)
		}
	}
	for bit := range m.p.MapBlocks * 512 {
		d := harmed(func(m *made) { m.turnBit(m.p.BlockMap, bit) })
		if got := impl.Check(d); !slices.Equal(got, []int64{15}) {
			t.Error("the bit of a block:", bit, got)
		}
	}
	draw := rand.New(rand.NewSource(1103))
	for range 20 {
		d := harmed(func(m *made) {
			m.turnBit(m.p.InodeMap, draw.Int63n(512))
			m.turnBit(m.p.BlockMap, draw.Int63n(1024))
		})
		checkBroken(t, "a bit of each map", d, 14, 15)
	}
	// a map of blocks that ends where the disk does
	g := impl.Geometry{Blocks: 512, Log: 16, Inodes: 1}
	checkBroken(t, "the last bit of all", harmed(func(m *made) { *m = *laid(g, nil); m.turnBit(m.p.BlockMap, 511) }), 15)
	checkBroken(t, "a file's last block", harmed(func(m *made) { m.change(3, func(i *impl.Inode) { i.Direct[1] = 599 }); m.setMaps() }))
}
