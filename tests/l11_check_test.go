package tests

import (
	"math/rand"
	"slices"
	"testing"

	"loop.example/s01525/impl"
)

// checkSeen holds all that is told of a disk against the plain telling, and tells the rules that do not hold.
func checkSeen(t *testing.T, name string, d impl.Disk) []int64 {
	t.Helper()
	broken, plain := impl.Check(d), plainCheck(d)
	if !slices.Equal(broken, plain) {
		t.Errorf("%s: Check tells %v, not %v", name, broken, plain)
	}
	if got, want := impl.Observe(d), plainObserve(d, plain); got.Code != want.Code || !slices.Equal(got.Nodes, want.Nodes) {
		t.Errorf("%s: Observe tells\n%v, not\n%v", name, got, want)
	}
	r, want := impl.Repair(d), plainRepair(d, plain)
	if r.Code != want.Code || !slices.Equal(r.Freed, want.Freed) || !sameBlocks(r.Disk, want.Disk) {
		t.Errorf("%s: Repair has the code %d, and frees %v, not %d and %v; or its disk is another", name, r.Code, r.Freed, want.Code, want.Freed)
	}
	if r.Code == 0 {
		checkRepaired(t, name, d, r)
	}
	return broken
}

// checkBroken holds a disk against a list that was written down by hand, too.
func checkBroken(t *testing.T, name string, d impl.Disk, want ...int64) {
	t.Helper()
	if got := checkSeen(t, name, d); !slices.Equal(got, want) {
		t.Errorf("%s: Check tells %v, not %v", name, got, want)
	}
	if o := impl.Observe(d); (o.Code == impl.ErrCorrupt) != (len(want) > 0) || o.Code != 0 && len(o.Nodes) > 0 {
		t.Errorf("%s: Observe has the code %d and %d nodes", name, o.Code, len(o.Nodes))
	}
}

// Promise 12: nothing is wrong with a new disk, and it has an empty root alone.
func TestCheckOfNewDisks(t *testing.T) {
	t.Parallel()
	root := value(impl.Observed{Nodes: []impl.Node{{Path: "/", Kind: 2, Inode: 1, Links: 1}}})
	for _, g := range someGeometries() {
		d := impl.Mkfs(g)
		if broken := impl.Check(d); len(broken) != 0 {
			t.Errorf("%v: rules %v do not hold", g, broken)
		}
		if o := impl.Observe(d); value(o) != root {
			t.Errorf("%v: seen are %v", g, o)
		}
		if r := impl.Repair(d); r.Code != 0 || len(r.Freed) != 0 || !sameBlocks(r.Disk, d) {
			t.Errorf("%v: the repair has the code %d, frees %v, or changes something", g, r.Code, r.Freed)
		}
	}
	for _, g := range edgeGeometries() {
		if _, ok := plainPlaces(g); !ok {
			if broken := impl.Check(impl.Mkfs(g)); !slices.Equal(broken, []int64{1}) {
				t.Errorf("%v: of no disk rules %v do not hold", g, broken)
			}
		}
	}
}

// Whole disks with trees on them, and all geometries at which the table's last block is full or not.
func TestCheckOfWholeDisks(t *testing.T) {
	t.Parallel()
	checkBroken(t, "the sample", sample().disk)
	checkBroken(t, "the little one", little().disk)
	draw := rand.New(rand.NewSource(1101))
	kinds := map[int64]int{}
	for range 150 {
		d := drawnSystem(draw).disk
		checkBroken(t, "a drawn one", d)
		for _, n := range impl.Observe(d).Nodes {
			kinds[n.Kind]++
		}
	}
	if kinds[1] < 500 || kinds[2] < 300 || kinds[3] < 200 {
		t.Error("few were drawn:", kinds)
	}
}

// Promise 12: each byte of what is not a file's own, changed in several ways.
func TestCheckTellsEachChange(t *testing.T) {
	t.Parallel()
	m := little()
	met := map[int64]int{}
	for block := range m.g.Blocks {
		if block > 1 && block < m.p.InodeMap {
			continue
		}
		for at := range int64(64) {
			was := m.disk.Durable[block*64+at]
			for _, b := range []byte{was ^ 1, was ^ 16, was ^ 128, was - 1, 0, 255} {
				for _, n := range checkSeen(t, "a byte", poked(m.disk, block*64+at, b)) {
					met[n]++
				}
			}
		}
	}
	for n := int64(2); n <= 19; n++ {
		if met[n] == 0 && n != 13 {
			t.Error("no change has broken rule", n)
		}
	}
}

// The log itself is not looked at.
func TestCheckOfTheLog(t *testing.T) {
	m := little()
	for block := int64(2); block < m.p.InodeMap; block++ {
		checkBroken(t, "a block of the log", poked(m.disk, block*64, drawn(64, block)...))
	}
}

// Several changes at once, on drawn disks: pointers, sizes, names, bits and links, and bytes anywhere in the table.
func TestCheckOfManyChanges(t *testing.T) {
	t.Parallel()
	draw := rand.New(rand.NewSource(1102))
	met := map[int64]int{}
	for range 400 {
		m := drawnSystem(draw)
		for range 1 + draw.Intn(4) {
			m.harm(draw)
		}
		for _, n := range checkSeen(t, "a drawn one", m.disk) {
			met[n]++
		}
	}
	for n := int64(4); n <= 19; n++ {
		if met[n] == 0 && n != 5 {
			t.Error("no change has broken rule", n)
		}
	}
}

// harm changes something that the rules speak of.
func (m *made) harm(draw *rand.Rand) {
	number := 1 + draw.Int63n(m.g.Inodes)
	block := draw.Int63n(m.g.Blocks+20) % 2048
	switch draw.Intn(10) {
	case 0:
		m.turnBit(m.p.InodeMap, draw.Int63n(512))
	case 1:
		m.turnBit(m.p.BlockMap, draw.Int63n(m.p.MapBlocks*512))
	case 2:
		m.put(m.p.Table, (number-1)*32+4+2*draw.Int63n(9), byte(block/256), byte(block%256))
	case 3:
		m.put(m.p.Table, (number-1)*32+draw.Int63n(4), byte(draw.Intn(5)))
	case 4:
		m.disk.Durable[m.p.Table*64+draw.Int63n(m.p.TableBlocks*64)] ^= 1 << draw.Intn(8)
	case 5:
		m.put(m.p.Data+draw.Int63n(m.p.DataBlocks), 16*draw.Int63n(4), byte(draw.Intn(20)/19), byte(number), byte(draw.Intn(14)))
	case 6:
		m.put(m.p.Data+draw.Int63n(m.p.DataBlocks), 2*draw.Int63n(32), byte(block/256), byte(block%256))
	case 7:
		m.disk.Durable[m.p.Data*64+draw.Int63n(m.p.DataBlocks*64)] ^= 1 << draw.Intn(8)
	case 8:
		m.copyRecord(draw, number)
	case 9:
		m.put(m.p.Table, (number-1)*32+1, 0)
	}
}

// copyRecord lays an inode's record where another one stands, so that all that it has is there twice; or empties its place.
func (m *made) copyRecord(draw *rand.Rand, number int64) {
	record := slices.Clone(m.disk.Durable[m.recordAt(number):][:32])
	if draw.Intn(2) == 0 {
		record = make([]byte, 32)
	}
	copy(m.disk.Durable[m.recordAt(1+draw.Int63n(m.g.Inodes)):], record)
}

// What is no file system at all.
func TestCheckOfNoFileSystem(t *testing.T) {
	for name, d := range brokenDisks() {
		checkBroken(t, name, d, 1)
	}
	m := sample()
	for _, bytes := range []int{0, 1, 63, 65, 600*64 - 1, 600*64 + 1, 2048*64 + 1, 2049 * 64} {
		checkBroken(t, "bytes of no blocks", impl.Disk{Durable: make([]byte, bytes)}, 1)
		if bytes < len(m.disk.Durable) {
			checkBroken(t, "a piece of a disk", impl.Disk{Durable: m.disk.Durable[:bytes]}, 1)
		}
	}
	for _, bytes := range []int{64, 128, 60 * 64, 600 * 64, 2048 * 64} {
		checkBroken(t, "all 0", impl.Disk{Durable: make([]byte, bytes)}, 2)
		checkBroken(t, "all 255", impl.Disk{Durable: sameBytes(bytes, 255)}, 2)
		checkBroken(t, "drawn bytes", impl.Disk{Durable: drawn(bytes, int64(bytes))}, 2)
	}
	for _, d := range validDisks() {
		checkBroken(t, "some disk", d, 2)
	}
	// a superblock, and behind it what is none of a file system's
	for _, b := range [][]byte{sameBytes(600*64, 255), drawn(600*64, 5), sameBytes(600*64, 1)} {
		copy(b, m.disk.Durable[:64])
		if got := checkSeen(t, "a superblock alone", impl.Disk{Durable: b}); got[0] != 3 {
			t.Error("Check tells", got)
		}
	}
	empty := impl.Disk{Durable: make([]byte, 600*64)}
	checkBroken(t, "a superblock and zeros", poked(empty, 0, m.disk.Durable[:64]...), 3, 5, 14, 15)
}

// What is told is what a reader sees, whichever writes are pending.
func TestCheckSeesPendingWrites(t *testing.T) {
	m := sample()
	whole := m.disk
	bad := poked(whole, m.p.InodeMap*64, 0)
	mended := bad
	mended.Pending = []impl.Write{{Block: m.p.InodeMap, Data: slices.Clone(whole.Durable[m.p.InodeMap*64:][:64])}}
	checkBroken(t, "the durable map is wrong", bad, 14)
	checkBroken(t, "a pending write sets it right", mended)
	again := mended
	again.Pending = append(slices.Clone(mended.Pending), impl.Write{Block: m.p.InodeMap, Data: make([]byte, 64)})
	checkBroken(t, "the youngest write counts", again, 14)
	if value(impl.Observe(mended)) != value(impl.Observe(whole)) || impl.Repair(mended).Code != impl.ErrDisk {
		t.Error("a reader sees the whole disk; a repair wants nothing pending")
	}
	file := whole
	data := sameBytes(64, 'x')
	file.Pending = []impl.Write{{Block: m.blockAt(5, 0), Data: data}, {Block: m.blockAt(5, 39), Data: data}}
	checkBroken(t, "pending bytes of a file", file)
	if n := impl.Observe(file).Nodes[findNode(impl.Observe(file).Nodes, "/big")]; n.Data[:64] != string(data) || n.Data[2496:] != string(data) {
		t.Error("the file is", n)
	}
	super := impl.NewDisk(m.g.Blocks)
	for block := range m.g.Blocks {
		super.Pending = append(super.Pending, impl.Write{Block: block, Data: whole.Durable[block*64 : block*64+64]})
	}
	checkBroken(t, "everything is pending", super)
	super.Pending = append(super.Pending, impl.Write{Block: 0, Data: make([]byte, 64)})
	checkBroken(t, "a write too many", super, 1)
}

// findNode is the place of a path; -1 if there is none.
func findNode(nodes []impl.Node, path string) int {
	return slices.IndexFunc(nodes, func(n impl.Node) bool { return n.Path == path })
}

func TestCheckConstants(t *testing.T) {
	if impl.ErrCorrupt != 5 || impl.ErrSuper != 4 {
		t.Error("the codes are others")
	}
}
