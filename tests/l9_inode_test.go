package tests

import (
	"bytes"
	"math/rand"
	"slices"
	"testing"

	"loop.example/s01525/impl"
)

func TestInodeConstants(t *testing.T) {
	for i, c := range []struct{ got, want int64 }{
		{impl.MaxFile, 2560}, {impl.FileBlocks, 40}, {impl.DirectCount, 8}, {impl.PointerCount, 32}, {impl.InodeSize, 32},
		{impl.KindFree, 0}, {impl.KindFile, 1}, {impl.KindDir, 2}, {impl.KindLink, 3}, {impl.MaxLinks, 8}, {impl.MaxTarget, 240},
	} {
		if c.got != c.want {
			t.Error("constant", i, "is", c.got)
		}
	}
}

// The bytes of records, written out by hand.
func TestInodeByHand(t *testing.T) {
	for _, c := range []struct {
		inode impl.Inode
		want  []byte
	}{
		{impl.Inode{Direct: make([]int64, 8)}, nil},
		{impl.Inode{Kind: 1, Links: 0, Size: 258, Direct: []int64{0, 0, 0, 0, 2047, 0, 0, 0}}, []byte{1, 0, 1, 2, 0, 0, 0, 0, 0, 0, 0, 0, 7, 255}},
		{impl.Inode{Kind: 1, Links: 8, Size: 2560, Direct: []int64{1, 2, 3, 256, 5, 6, 7, 772}, Indirect: 1029},
			[]byte{1, 8, 10, 0, 0, 1, 0, 2, 0, 3, 1, 0, 0, 5, 0, 6, 0, 7, 3, 4, 4, 5}},
		{impl.Inode{Kind: 1, Links: 2, Size: 600, Direct: make([]int64, 8), Indirect: 300}, []byte{1, 2, 2, 88, 0, 0, 0, 0, 0, 0, 0, 0, 0, 0, 0, 0, 0, 0, 0, 0, 1, 44}},
		{impl.Inode{Kind: 2, Links: 1, Direct: make([]int64, 8)}, []byte{2, 1}},
		{impl.Inode{Kind: 2, Links: 1, Size: 80, Direct: []int64{9, 2046, 0, 0, 0, 0, 0, 0}}, []byte{2, 1, 0, 80, 0, 9, 7, 254}},
		{impl.Inode{Kind: 3, Links: 3, Size: 240, Direct: []int64{30, 31, 32, 33, 0, 0, 0, 0}}, []byte{3, 3, 0, 240, 0, 30, 0, 31, 0, 32, 0, 33}},
	} {
		want := padded(c.want...)[:32]
		if got := impl.EncodeInode(c.inode); !bytes.Equal(got, want) {
			t.Errorf("%v: encoded as\n%v, not\n%v", c.inode, got, want)
		}
		if got := impl.DecodeInode(want); !got.Good || value(got.Inode) != value(c.inode) {
			t.Errorf("%v: decoded as %v", c.inode, got)
		}
	}
}

// Promise 4: valid inodes of all four kinds, those at the bounds and drawn ones, there and back.
func TestInodeThereAndBack(t *testing.T) {
	k := inodeKind()
	list := someInodes()
	draw := rand.New(rand.NewSource(91))
	for range 3000 {
		list = append(list, drawnInode(draw))
	}
	kinds := map[int64]int{}
	for _, i := range list {
		if !isInode(i) || !impl.ValidInode(i) {
			t.Fatalf("%v is not valid", i)
		}
		kinds[i.Kind]++
		checkThing(t, k, i)
	}
	if len(kinds) != 4 {
		t.Error("some kinds are missing:", kinds)
	}
}

// checkInode holds ValidInode and what is encoded against the rules of 9.1, of any inode.
func checkInode(t *testing.T, i impl.Inode) bool {
	t.Helper()
	want := isInode(i)
	if got := impl.ValidInode(i); got != want {
		t.Errorf("%v: valid is %v", i, got)
	}
	checkThing(t, inodeKind(), i)
	return want
}

// What 9.1 says of each kind at its bounds and one beyond, told by hand.
func TestValidInodeByHand(t *testing.T) {
	other := func(i impl.Inode, change func(i *impl.Inode)) impl.Inode {
		i = copied(i)
		change(&i)
		return i
	}
	free, file, dir, link := inodeOf(0, 0, 0, 0), inodeOf(1, 1, 100, 30), inodeOf(2, 1, 80, 30), inodeOf(3, 1, 100, 30)
	for row, c := range []struct {
		inode impl.Inode
		want  bool
	}{
		{free, true}, {file, true}, {dir, true}, {link, true},
		{other(free, func(i *impl.Inode) { i.Links = 1 }), false},
		{other(free, func(i *impl.Inode) { i.Size = 1 }), false},
		{other(free, func(i *impl.Inode) { i.Indirect = 1 }), false},
		{other(free, func(i *impl.Inode) { i.Direct[7] = 1 }), false},
		{inodeOf(1, 0, 0, 1), true}, {inodeOf(1, 8, 0, 1), true}, {inodeOf(1, 9, 0, 1), false}, {inodeOf(1, -1, 0, 1), false},
		{inodeOf(2, 0, 0, 1), false}, {inodeOf(2, 1, 0, 1), true}, {inodeOf(2, 2, 0, 1), false}, {inodeOf(2, 8, 16, 1), false},
		{inodeOf(3, 0, 1, 1), false}, {inodeOf(3, 1, 1, 1), true}, {inodeOf(3, 8, 1, 1), true}, {inodeOf(3, 9, 1, 1), false},
		{inodeOf(1, 1, -1, 1), false}, {inodeOf(1, 1, 2560, 1), true}, {inodeOf(1, 1, 2561, 1), false},
		{inodeOf(2, 1, -16, 1), false}, {inodeOf(2, 1, 2560, 1), true}, {inodeOf(2, 1, 2576, 1), false}, {inodeOf(2, 1, 15, 1), false}, {inodeOf(2, 1, 17, 1), false}, {inodeOf(2, 1, 2559, 1), false},
		{inodeOf(3, 1, 0, 1), false}, {inodeOf(3, 1, 240, 1), true}, {inodeOf(3, 1, 241, 1), false}, {inodeOf(3, 1, 2560, 1), false},
		{other(file, func(i *impl.Inode) { i.Direct[0], i.Direct[1] = 0, 0 }), true},
		{other(file, func(i *impl.Inode) { i.Direct[2] = 5 }), false},
		{other(file, func(i *impl.Inode) { i.Indirect = 5 }), false},
		{other(file, func(i *impl.Inode) { i.Size = 64 }), false},
		{other(file, func(i *impl.Inode) { i.Size = 65 }), true},
		{other(file, func(i *impl.Inode) { i.Size = 128 }), true},
		{other(file, func(i *impl.Inode) { i.Direct[1] = i.Direct[0] }), true},
		{other(dir, func(i *impl.Inode) { i.Direct[0] = 0 }), false},
		{other(dir, func(i *impl.Inode) { i.Direct[1] = 0 }), false},
		{other(dir, func(i *impl.Inode) { i.Size = 64 }), false},
		{other(dir, func(i *impl.Inode) { i.Size = 144 }), false},
		{other(link, func(i *impl.Inode) { i.Direct[0] = 0 }), false},
		{other(link, func(i *impl.Inode) { i.Direct[2] = 5 }), false},
		{other(link, func(i *impl.Inode) { i.Indirect = 5 }), false},
		{other(inodeOf(1, 1, 513, 1), func(i *impl.Inode) { i.Indirect = 0 }), true},
		{other(inodeOf(1, 1, 512, 1), func(i *impl.Inode) { i.Indirect = 9 }), false},
		{other(inodeOf(2, 1, 528, 1), func(i *impl.Inode) { i.Indirect = 0 }), false},
		{other(inodeOf(2, 1, 512, 1), func(i *impl.Inode) { i.Indirect = 9 }), false},
		{other(free, func(i *impl.Inode) { i.Kind = 4 }), false}, {other(file, func(i *impl.Inode) { i.Kind = -1 }), false}, {other(file, func(i *impl.Inode) { i.Kind = 257 }), false},
		{impl.Inode{}, false}, {impl.Inode{Kind: 1, Links: 1}, false},
		{other(file, func(i *impl.Inode) { i.Direct[0] = 2047 }), true}, {other(file, func(i *impl.Inode) { i.Direct[0] = 2048 }), false}, {other(file, func(i *impl.Inode) { i.Direct[0] = -1 }), false},
	} {
		if isInode(c.inode) != c.want {
			t.Error("the test's own rules answer otherwise, row", row)
		}
		if impl.ValidInode(c.inode) != c.want {
			t.Errorf("row %d: %v: valid is %v", row, c.inode, !c.want)
		}
		checkInode(t, c.inode)
	}
}

// Each field of inodes of each kind at every bound, one beyond, and far from all of them.
func TestInodeFields(t *testing.T) {
	t.Parallel()
	valid := 0
	for _, was := range someInodes() {
		for _, v := range farNumbers() {
			for at := range 12 {
				i := copied(was)
				switch at {
				case 8:
					i.Kind = v
				case 9:
					i.Links = v
				case 10:
					i.Size = v
				case 11:
					i.Indirect = v
				default:
					i.Direct[at] = v
				}
				if checkInode(t, i) {
					valid++
				}
			}
		}
	}
	if valid < 1000 {
		t.Error("only", valid, "were valid")
	}
}

// Each kind with all sizes and links: with a block wherever there may be one, and with none.
func TestInodeSizes(t *testing.T) {
	for kind := int64(-1); kind < 6; kind++ {
		for size := int64(-1); size < 2563; size++ {
			checkInode(t, inodeOf(kind, 1, size, 20))
			checkInode(t, inodeOf(kind, size%11, size, 20))
			checkInode(t, impl.Inode{Kind: kind, Links: 1, Size: size, Direct: make([]int64, 8)})
		}
	}
}

// One of the blocks too many, or one missing, at each place and each size at a border.
func TestInodeHolesAndBlocksBehind(t *testing.T) {
	for kind := range int64(4) {
		for _, size := range []int64{0, 1, 16, 48, 63, 64, 65, 80, 128, 144, 192, 193, 208, 240, 256, 448, 464, 496, 511, 512, 513, 528, 2560} {
			for at := range 9 {
				for _, b := range []int64{0, 7} {
					i := inodeOf(kind, 1, size, 20)
					if at < 8 {
						i.Direct[at] = b
					} else {
						i.Indirect = b
					}
					checkInode(t, i)
				}
			}
		}
	}
}

// Direct has exactly eight numbers.
func TestInodeCounts(t *testing.T) {
	for n := range 12 {
		for kind := range int64(4) {
			i := inodeOf(kind, 1, 16, 20)
			if kind == 0 {
				i = inodeOf(0, 0, 0, 0)
			}
			i.Direct = append(i.Direct, make([]int64, 4)...)[:n]
			if got := impl.ValidInode(i); got != (n == 8) {
				t.Errorf("kind %d with %d numbers: valid is %v", kind, n, got)
			}
			if got := impl.EncodeInode(i); (len(got) == 32) != (n == 8) || n != 8 && len(got) != 0 {
				t.Errorf("kind %d with %d numbers: encoded as %v", kind, n, got)
			}
		}
	}
}

// turnedInodes are few, with edges among them.
func turnedInodes() []impl.Inode {
	draw := rand.New(rand.NewSource(92))
	list := []impl.Inode{
		inodeOf(0, 0, 0, 0), inodeOf(1, 0, 0, 1), inodeOf(1, 1, 64, 1), inodeOf(1, 8, 512, 247), inodeOf(1, 2, 513, 248), inodeOf(1, 1, 2560, 2039),
		inodeOf(2, 1, 0, 1), inodeOf(2, 1, 256, 20), inodeOf(2, 1, 528, 20), inodeOf(2, 1, 2560, 2039), inodeOf(3, 1, 1, 1), inodeOf(3, 8, 240, 2000),
	}
	for range 8 {
		list = append(list, drawnInode(draw))
	}
	return list
}

// checkTurned turns each byte to each other value: what is taken then is another thing, with just these bytes.
func checkTurned(t *testing.T, k journalKind, thing any) map[int]int {
	t.Helper()
	taken := map[int]int{}
	b := k.plain(thing)
	for at := range b {
		for x := 1; x < 256; x++ {
			other := slices.Clone(b)
			other[at] ^= byte(x)
			if checkBlock(t, k, other) {
				taken[at]++
				if _, got := k.decode(other); value(got) == value(thing) {
					t.Fatalf("%s %v: byte %d turned is not seen", k.name, thing, at)
				}
			}
		}
	}
	return taken
}

// Promise 4: with one byte turned a record is taken only as that of another valid inode.
func TestInodeTurned(t *testing.T) {
	t.Parallel()
	all := map[int]int{}
	for _, i := range turnedInodes() {
		for at, n := range checkTurned(t, inodeKind(), i) {
			all[at] += n
		}
	}
	for at := range 32 {
		if (all[at] > 0) != (at < 22) {
			t.Error(all[at], "records with byte", at, "turned were taken")
		}
	}
}

// Several bytes at once, and records that are drawn.
func TestInodeDrawnBytes(t *testing.T) {
	draw := rand.New(rand.NewSource(93))
	taken := 0
	for range 20000 {
		b := inodeKind().plain(drawnInode(draw))
		for range 1 + draw.Intn(3) {
			b[draw.Intn(32)] = byte(draw.Intn(9))
		}
		if checkBlock(t, inodeKind(), b) {
			taken++
		}
		for at := range b {
			b[at] = byte(draw.Intn(256) >> (draw.Intn(4) * 2))
		}
		b[0] %= 5
		checkBlock(t, inodeKind(), b)
	}
	if taken < 500 {
		t.Error("only", taken, "were taken")
	}
}

// Inodes that are not valid, written down all the same, are no records.
func TestInodeRecordsOfNoInodes(t *testing.T) {
	k := inodeKind()
	for _, i := range []impl.Inode{
		inodeOf(0, 1, 0, 0), inodeOf(1, 9, 64, 1), inodeOf(1, 1, 2561, 1), inodeOf(1, 1, 64, 2048), inodeOf(2, 0, 16, 1), inodeOf(2, 2, 16, 1), inodeOf(2, 1, 17, 1),
		inodeOf(3, 1, 241, 1), inodeOf(3, 0, 64, 1), inodeOf(3, 1, 0, 1), inodeOf(4, 1, 64, 1), inodeOf(255, 255, 65535, 65000),
	} {
		b := k.plain(i)
		if got := impl.DecodeInode(b); len(b) != 32 || value(got) != value(impl.InodeResult{}) {
			t.Errorf("%v is decoded as %v", i, got)
		}
	}
}

// wrongLengths are the bytes cut and lengthened in every way, and none that are as long as they were.
func wrongLengths(b []byte) [][]byte {
	lists := [][]byte{nil, {}, append(slices.Clone(b), 0), append([]byte{0}, b...), slices.Concat(b, b), slices.Concat(b, make([]byte, len(b))), make([]byte, 1<<16)}
	for n := range b {
		lists = append(lists, b[:n], b[n+1:])
	}
	return lists
}

// One byte less, one more, none: only 32 bytes are a record, and only 64 a pointer block.
func TestInodeLengths(t *testing.T) {
	for _, i := range turnedInodes() {
		for _, list := range wrongLengths(inodeKind().plain(i)) {
			if got := impl.DecodeInode(list); value(got) != value(impl.InodeResult{}) {
				t.Fatalf("%d bytes are decoded as %v", len(list), got)
			}
		}
	}
	for _, p := range turnedPointers() {
		for _, list := range wrongLengths(pointersKind().plain(p)) {
			if got := impl.DecodePointers(list); len(got) != 0 {
				t.Fatalf("%d bytes are decoded as %v", len(list), got)
			}
		}
	}
}

func turnedPointers() [][]int64 {
	draw := rand.New(rand.NewSource(94))
	full := make([]int64, 32)
	for j := range full {
		full[j] = 2047
	}
	return [][]int64{make([]int64, 32), full, runOf(1, 32), runOf(240, 32), drawnPointers(draw, 32), drawnPointers(draw, 32)}
}

func TestPointersByHand(t *testing.T) {
	p := make([]int64, 32)
	p[0], p[1], p[2], p[30], p[31] = 2047, 256, 255, 1, 772
	want := padded(7, 255, 1, 0, 0, 255)
	want[61], want[62], want[63] = 1, 3, 4
	if got := impl.EncodePointers(p); !bytes.Equal(got, want) {
		t.Errorf("encoded as %v", got)
	}
	if got := impl.DecodePointers(want); !slices.Equal(got, p) {
		t.Errorf("decoded as %v", got)
	}
	if got := impl.DecodePointers(make([]byte, 64)); !slices.Equal(got, make([]int64, 32)) {
		t.Errorf("64 zeros are decoded as %v", got)
	}
}

// Promise 4: pointer blocks there and back; lists of other lengths, and with each number at and beyond its bounds.
func TestPointersThereAndBack(t *testing.T) {
	k := pointersKind()
	draw := rand.New(rand.NewSource(95))
	for _, p := range turnedPointers() {
		checkThing(t, k, p)
		for at := range p {
			for _, v := range farNumbers() {
				other := slices.Clone(p)
				other[at] = v
				checkThing(t, k, other)
			}
		}
	}
	for range 1000 {
		checkThing(t, k, drawnPointers(draw, 32))
	}
	for _, n := range []int{0, 1, 31, 33, 64, 100000} {
		if got := impl.EncodePointers(drawnPointers(draw, n)); len(got) != 0 {
			t.Errorf("%d numbers are encoded as %v", n, got)
		}
	}
	if len(impl.EncodePointers(nil)) != 0 {
		t.Error("no list is encoded")
	}
}

// Promise 4: with one byte turned a pointer block tells other numbers, or none.
func TestPointersTurned(t *testing.T) {
	t.Parallel()
	for _, p := range turnedPointers() {
		taken := checkTurned(t, pointersKind(), p)
		for at := range 64 {
			if want := []int{7, 255}[at%2]; taken[at] != want {
				t.Errorf("byte %d was taken at %d values, not %d", at, taken[at], want)
			}
		}
	}
}

// The records of a new disk: an empty directory with one name, and free ones.
func TestInodesOfNewDisks(t *testing.T) {
	for _, g := range turnedGeometries() {
		d, p := impl.Mkfs(g), impl.Layout(g)
		table := d.Durable[p.Table*64:]
		for i := range g.Inodes {
			want := inodeOf(0, 0, 0, 0)
			if i == 0 {
				want = inodeOf(2, 1, 0, 0)
			}
			if r := impl.DecodeInode(table[i*32 : (i+1)*32]); !r.Good || value(r.Inode) != value(want) {
				t.Errorf("%v: inode %d is %v", g, i+1, r)
			}
		}
	}
}
