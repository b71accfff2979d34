package tests

import (
	"math/rand"
	"slices"
	"testing"

	"loop.example/s01525/impl"
)

// checkRepaired holds a repair that has no code against promise 23.
func checkRepaired(t *testing.T, name string, d impl.Disk, r impl.Repaired) {
	t.Helper()
	v, _ := plainVolumeOf(plainImage(d))
	before := v.below("", 1)
	o := impl.Observe(r.Disk)
	if broken := impl.Check(r.Disk); len(broken) != 0 || o.Code != 0 || len(o.Nodes) != len(before) {
		t.Errorf("%s: behind the repair rules %v do not hold, %d nodes are seen, not %d", name, broken, len(o.Nodes), len(before))
		return
	}
	before[0].Path = "/"
	reached := map[int64]bool{}
	for _, n := range before {
		reached[n.Inode] = true
		at := findNode(o.Nodes, n.Path)
		if at < 0 {
			t.Errorf("%s: %s is gone", name, n.Path)
			continue
		}
		n.Links = o.Nodes[at].Links
		if o.Nodes[at] != n {
			t.Errorf("%s: %s leads to %v, not %v", name, n.Path, o.Nodes[at], n)
		}
	}
	var freed []int64
	for number, i := range v.inodes {
		if i.Kind != 0 && !reached[int64(number)] {
			freed = append(freed, int64(number))
		}
	}
	if !slices.Equal(r.Freed, freed) {
		t.Errorf("%s: freed are %v, not %v", name, r.Freed, freed)
	}
	if again := impl.Repair(r.Disk); again.Code != 0 || len(again.Freed) != 0 || !sameBlocks(again.Disk, r.Disk) {
		t.Errorf("%s: a second repair has the code %d, frees %v, or changes something", name, again.Code, again.Freed)
	}
}

// checkFreed holds a repair against what it frees and the bytes that are to be there behind it, written down by hand.
func checkFreed(t *testing.T, name string, d, want impl.Disk, freed ...int64) {
	t.Helper()
	checkSeen(t, name, d)
	r := impl.Repair(d)
	if r.Code != 0 || !slices.Equal(r.Freed, freed) {
		t.Errorf("%s: the code is %d, freed are %v", name, r.Code, r.Freed)
		return
	}
	for block := range len(want.Durable) / 64 {
		if got, is := r.Disk.Durable[block*64:][:64], want.Durable[block*64:][:64]; !slices.Equal(got, is) {
			t.Errorf("%s: block %d is\n%v, not\n%v", name, block, got, is)
		}
	}
	if len(r.Disk.Durable) != len(want.Durable) || len(r.Disk.Pending) != 0 {
		t.Errorf("%s: the disk has %d bytes, and %d writes pending", name, len(r.Disk.Durable), len(r.Disk.Pending))
	}
}

// named is the sample without the file that has no name: each inode in use is reached.
func named() *made {
	items := sampleItems()
	delete(items, 13)
	return laid(sampleGeometry, items)
}

// Promise 23: what is whole, and reached, stays byte for byte; what no rule speaks of stays in any case.
func TestRepairOfWholeDisks(t *testing.T) {
	checkFreed(t, "the sample", named().disk, named().disk)
	m := named()
	m.put(2, 0, drawn(64*64, 3)...)         // the log
	m.put(300, 0, drawn(64*300, 4)...)      // blocks that are free
	m.put(m.blockAt(2, 0), 33, 1, 2, 3)     // behind a directory's end
	m.put(m.blockAt(5, 3), 0, filled(9)...) // bytes of a file
	m.put(1, 0, superKind().plain(impl.JSuper{Log: 64, Start: 9, Seq: 77})...)
	checkFreed(t, "other bytes", m.disk, m.disk)
	for _, g := range []impl.Geometry{{Blocks: 22, Log: 16, Inodes: 1}, {Blocks: 2048, Log: 512, Inodes: 256}} {
		checkFreed(t, "a new disk", impl.Mkfs(g), impl.Mkfs(g))
	}
}

// Maps, numbers of names and what is not reached, each alone.
func TestRepairOfOneThing(t *testing.T) {
	whole := named().disk
	for name, by := range map[string]func(m *made){
		"the map of inodes":           func(m *made) { m.put(66, 0, filled(0)...) },
		"the map of inodes, all on":   func(m *made) { m.put(66, 0, filled(255)...) },
		"a bit behind the last inode": func(m *made) { m.turnBit(66, 31) },
		"the map of blocks":           func(m *made) { m.put(67, 0, filled(0)...) },
		"its second block":            func(m *made) { m.put(68, 0, filled(255)...) },
		"a bit behind the disk's end": func(m *made) { m.turnBit(67, 600) },
		"a bit of the root's":         func(m *made) { m.turnBit(66, 0) },
		"more names":                  func(m *made) { m.change(3, func(i *impl.Inode) { i.Links = 8 }) },
		"fewer names":                 func(m *made) { m.change(3, func(i *impl.Inode) { i.Links = 1 }) },
		"no names":                    func(m *made) { m.change(3, func(i *impl.Inode) { i.Links = 0 }) },
		"no names, and many blocks":   func(m *made) { m.change(5, func(i *impl.Inode) { i.Links = 0 }) },
		"a link's names":              func(m *made) { m.change(12, func(i *impl.Inode) { i.Links = 1 }) },
		"all names": func(m *made) {
			for _, number := range []int64{3, 4, 5, 6, 8, 9, 10, 11, 12} {
				m.change(number, func(i *impl.Inode) { i.Links = 1 + number%7 })
			}
		},
		"both maps and names": func(m *made) {
			m.put(66, 0, drawn(192, 8)...)
			m.change(6, func(i *impl.Inode) { i.Links = 5 })
		},
	} {
		m := named()
		by(m)
		checkFreed(t, name, m.disk, whole)
	}
}

// cleared is the disk without these inodes, whose blocks have their bytes still.
func cleared(m *made, numbers ...int64) impl.Disk {
	for _, number := range numbers {
		copy(m.disk.Durable[m.recordAt(number):], make([]byte, 32))
	}
	m.setMaps()
	return m.disk
}

func TestRepairFrees(t *testing.T) {
	for name, c := range map[string]struct {
		more  map[int64]item
		freed []int64
	}{
		"what has no name":             {nil, []int64{13}},
		"a directory":                  {map[int64]item{20: dirOf()}, []int64{13, 20}},
		"a file and a link":            {map[int64]item{20: sizedFile(1, 700), 31: linkTo(3, "/x")}, []int64{13, 20, 31}},
		"too much for one transaction": {map[int64]item{20: sizedFile(0, 2560)}, []int64{13, 20}},
		"a tree":                       {map[int64]item{20: dirOf(impl.Entry{Inode: 14, Name: "x"}, impl.Entry{Inode: 30, Name: "y"}), 14: sizedFile(1, 70), 30: dirOf()}, []int64{13, 14, 20, 30}},
		"a ring":                       {map[int64]item{20: dirOf(impl.Entry{Inode: 21, Name: "x"}), 21: dirOf(impl.Entry{Inode: 20, Name: "y"})}, []int64{13, 20, 21}},
		"one that names itself":        {map[int64]item{20: dirOf(impl.Entry{Inode: 20, Name: "x"})}, []int64{13, 20}},
		"one that names what stays":    {map[int64]item{20: dirOf(impl.Entry{Inode: 3, Name: "x"}, impl.Entry{Inode: 6, Name: "y"})}, []int64{13, 20}},
		"one with a pointer block":     {map[int64]item{20: sampleItems()[7]}, []int64{13, 20}},
	} {
		checkFreed(t, name, sampleWith(c.more).disk, cleared(sampleWith(c.more), c.freed...), c.freed...)
	}
}

// Names in directories that are not reached do not count: neither for links, nor for how many a file may have.
func TestRepairOfNames(t *testing.T) {
	many := func(n int) []impl.Entry {
		var entries []impl.Entry
		for i := range n {
			entries = append(entries, impl.Entry{Inode: 3, Name: string(rune('a' + i))})
		}
		return entries
	}
	g := impl.Geometry{Blocks: 120, Log: 64, Inodes: 9}
	for reached := 0; reached <= 12; reached++ {
		for _, other := range []int{0, 1, 9} {
			for _, it := range []item{sizedFile(1, 40), sizedFile(0, 40), linkTo(8, "/x")} {
				items := map[int64]item{1: dirOf(append(many(reached/2), impl.Entry{Inode: 2, Name: "dir"})...), 2: dirOf(many(reached - reached/2)...), 3: it, 4: dirOf(many(other)...)}
				m := laid(g, items)
				checkSeen(t, "a file of many names", m.disk)
				r := impl.Repair(m.disk)
				if reached > 8 {
					if value(r) != value(impl.Repaired{Code: impl.ErrCorrupt}) {
						t.Error(reached, "names that are reached:", r.Code)
					}
					continue
				}
				freed := []int64{4}
				want := cleared(laid(g, items), 4)
				if reached == 0 {
					freed = []int64{3, 4}
					want = cleared(laid(g, items), 3, 4)
				} else {
					want.Durable[m.recordAt(3)+1] = byte(reached)
				}
				checkFreed(t, "a file of many names", m.disk, want, freed...)
			}
		}
	}
}

// All at once: the maps, numbers of names, and what is not reached.
func TestRepairOfAllTogether(t *testing.T) {
	m := sampleWith(map[int64]item{20: dirOf(impl.Entry{Inode: 21, Name: "x"}, impl.Entry{Inode: 5, Name: "y"}), 21: sizedFile(2, 700), 22: sizedFile(0, 2560)})
	want := cleared(sampleWith(map[int64]item{20: dirOf(impl.Entry{Inode: 21, Name: "x"}, impl.Entry{Inode: 5, Name: "y"}), 21: sizedFile(2, 700), 22: sizedFile(0, 2560)}), 13, 20, 21, 22)
	m.put(66, 0, drawn(192, 6)...)
	m.change(3, func(i *impl.Inode) { i.Links = 0 })
	m.change(12, func(i *impl.Inode) { i.Links = 8 })
	if got := impl.Check(m.disk); !slices.Equal(got, []int64{12, 14, 15, 17, 19}) {
		t.Error("Check tells", got)
	}
	checkFreed(t, "all together", m.disk, want, 13, 20, 21, 22)
}

// The codes in their order, each with all that stands behind it.
func TestRepairCodes(t *testing.T) {
	pending := func(d impl.Disk) impl.Disk {
		d.Pending = []impl.Write{{Block: 300, Data: make([]byte, 64)}}
		return d
	}
	noSuper := func(m *made) { m.put(0, 9, 99) }
	noJournal := func(m *made) { m.put(1, 9, 99) }
	noDir := func(m *made) { m.put(87, 3, '/') }
	noMap := func(m *made) { m.put(66, 0, filled(0)...) }
	for name, c := range map[string]struct {
		disk impl.Disk
		code int64
	}{
		"no disk":                         {impl.Disk{}, impl.ErrDisk},
		"a byte too many":                 {impl.Disk{Durable: make([]byte, 65)}, impl.ErrDisk},
		"a write pending":                 {pending(sample().disk), impl.ErrDisk},
		"one that changes nothing":        {pending(impl.Mkfs(sampleGeometry)), impl.ErrDisk},
		"one of no block":                 {impl.Disk{Durable: sample().disk.Durable, Pending: []impl.Write{{Block: -1}}}, impl.ErrDisk},
		"one pending, and no superblock":  {pending(harmed(noSuper)), impl.ErrDisk},
		"one pending, and not whole":      {pending(harmed(noDir)), impl.ErrDisk},
		"all 0":                           {impl.NewDisk(60), impl.ErrSuper},
		"no superblock":                   {harmed(noSuper), impl.ErrSuper},
		"no journal":                      {harmed(noJournal), impl.ErrSuper},
		"no journal, and not whole":       {harmed(func(m *made) { noJournal(m); noDir(m) }), impl.ErrSuper},
		"no superblock, and not whole":    {harmed(func(m *made) { noSuper(m); noDir(m) }), impl.ErrSuper},
		"another log":                     {harmed(func(m *made) { m.put(1, 0, superKind().plain(impl.JSuper{Log: 65, Seq: 1})...) }), impl.ErrSuper},
		"another number of blocks":        {impl.Disk{Durable: sample().disk.Durable[:599*64]}, impl.ErrSuper},
		"not whole":                       {harmed(noDir), impl.ErrCorrupt},
		"not whole, and what can be done": {harmed(func(m *made) { noDir(m); noMap(m) }), impl.ErrCorrupt},
		"no journal, and a map":           {harmed(func(m *made) { noJournal(m); noMap(m) }), impl.ErrSuper},
		"a map":                           {harmed(noMap), 0},
	} {
		checkSeen(t, name, c.disk)
		r := impl.Repair(c.disk)
		if r.Code != c.code || c.code != 0 && (len(r.Freed) > 0 || len(r.Disk.Durable) > 0 || len(r.Disk.Pending) > 0) {
			t.Errorf("%s: the code is %d, not %d; or there is something beside it", name, r.Code, c.code)
		}
	}
}

// Which rules a repair can put right, and which it cannot, each broken with as few others as can be.
func TestRepairOfEachRule(t *testing.T) {
	for name, c := range map[string]struct {
		disk impl.Disk
		code int64
	}{
		"4":                             {harmed(func(m *made) { m.put(69, 19*32, 9) }), 5},
		"5":                             {laid(impl.Geometry{Blocks: 60, Log: 16, Inodes: 8}, map[int64]item{1: fileOf(0, "")}).disk, 5},
		"6":                             {harmedMaps(func(m *made) { m.change(5, func(i *impl.Inode) { i.Direct[3] = 1 }) }), 5},
		"7":                             {harmedMaps(func(m *made) { m.put(100, 0, 255) }), 5},
		"8":                             {harmedMaps(func(m *made) { m.changeList(5, 3, 92) }), 5},
		"9":                             {harmed(func(m *made) { m.put(143, 63, 1) }), 5},
		"10":                            {withEntry(20, "x").disk, 5},
		"11":                            {withEntry(7, "x").disk, 5},
		"12":                            {sampleWith(map[int64]item{20: dirOf()}).disk, 0},
		"13":                            {laid(impl.Geometry{Blocks: 400, Log: 16, Inodes: 100}, chain(17, nil)).disk, 5},
		"14":                            {harmed(func(m *made) { m.turnBit(66, 500) }), 0},
		"15":                            {harmed(func(m *made) { m.turnBit(68, 5) }), 0},
		"16":                            {harmed(func(m *made) { m.put(89, 63, 1) }), 5},
		"17":                            {harmed(func(m *made) { m.change(3, func(i *impl.Inode) { i.Links = 5 }) }), 0},
		"18":                            {sampleWith(map[int64]item{6: linkTo(1, "x")}).disk, 5},
		"19":                            {sampleWith(map[int64]item{13: sizedFile(0, 2560)}).disk, 0},
		"what is not reached breaks 8":  {harmedMaps(func(m *made) { m.setInode(20, m.inodes[5]) }), 5},
		"what is not reached breaks 9":  {sampleWith(map[int64]item{20: {kind: 2, links: 1, data: "0123456789abcdef"}}).disk, 5},
		"what is not reached breaks 10": {sampleWith(map[int64]item{20: dirOf(impl.Entry{Inode: 21, Name: "x"})}).disk, 5},
		"what is not reached breaks 11": {sampleWith(map[int64]item{20: dirOf(impl.Entry{Inode: 2, Name: "x"})}).disk, 5},
		"what is not reached breaks 18": {sampleWith(map[int64]item{20: linkTo(1, "x")}).disk, 5},
		"without a name, and breaks 16": {harmed(func(m *made) { m.put(m.blockAt(13, 3), 8, 'y') }), 5},
	} {
		checkSeen(t, name, c.disk)
		if r := impl.Repair(c.disk); r.Code != c.code || c.code == 0 && len(impl.Check(r.Disk)) > 0 {
			t.Errorf("%s: the code is %d, not %d", name, r.Code, c.code)
		}
	}
}

// Drawn disks on which only maps, numbers of names, and whole trees are out of their places.
func TestRepairOfDrawnDisks(t *testing.T) {
	t.Parallel()
	draw := rand.New(rand.NewSource(1105))
	mended, freed := 0, 0
	for range 300 {
		m := drawnSystem(draw)
		for range draw.Intn(4) {
			m.lose(draw)
		}
		checkSeen(t, "a drawn one", m.disk)
		if r := impl.Repair(m.disk); r.Code == 0 {
			mended++
			freed += len(r.Freed)
		}
	}
	if mended < 100 || freed < 100 {
		t.Error("mended", mended, "freed", freed)
	}
}

// lose harms what a repair can put right: a bit, a number of names, an entry.
func (m *made) lose(draw *rand.Rand) {
	number := 1 + draw.Int63n(m.g.Inodes)
	switch draw.Intn(4) {
	case 0:
		m.turnBit(m.p.InodeMap, draw.Int63n(512))
	case 1:
		m.turnBit(m.p.BlockMap, draw.Int63n(m.p.MapBlocks*512))
	case 2:
		if kind := m.inodes[number].Kind; kind == 1 || kind == 3 {
			m.change(number, func(i *impl.Inode) { i.Links = 1 + draw.Int63n(8) })
		}
	case 3:
		// the last entry of a directory is gone; its block stays
		if i := m.inodes[number]; i.Kind == 2 && i.Size%64 > 16 {
			m.change(number, func(i *impl.Inode) { i.Size -= 16 })
		}
	}
}
