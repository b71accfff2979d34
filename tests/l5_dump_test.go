package tests

import (
	"bytes"
	"math/rand"
	"slices"
	"testing"

	"loop.example/s01525/impl"
)

// dumped holds the lines of a disk against the transactions that ScanLog finds there, position by position.
func dumped(t *testing.T, name string, d impl.Disk) {
	t.Helper()
	f := impl.ScanLog(d)
	lines := impl.Dump(d)
	if f.Code != 0 || int64(len(lines)) != f.Super.Log {
		t.Fatalf("%s: code %d, %d lines", name, f.Code, len(lines))
	}
	p := f.Super.Start
	for i, x := range f.Txns {
		var b []byte
		for lines[p-1].Txn == int64(i+1) && int64(len(b)/64) < f.Super.Log {
			b = append(b, d.Durable[(1+p)*64:(2+p)*64]...)
			p = stepOn(p, 1, f.Super.Log)
		}
		if r := impl.ReadTxn(b); !r.Good || value(r.Txn) != value(x) {
			t.Fatalf("%s: the lines of transaction %d are %d positions, and not its blocks", name, i+1, len(b)/64)
		}
	}
	inside := 0
	for i, line := range lines {
		if line.Position != int64(i+1) {
			t.Fatalf("%s: line %d is of position %d", name, i, line.Position)
		}
		if line.Txn != 0 {
			inside++
		}
	}
	for _, x := range f.Txns {
		inside -= int(impl.TxnLength(x))
	}
	if inside != 0 {
		t.Fatalf("%s: %d lines too many are a transaction's", name, inside)
	}
	if value(lines) != value(plainDump(d, plainFound(d))) {
		t.Fatalf("%s: the lines are\n%v, not\n%v", name, lines, plainDump(d, plainFound(d)))
	}
}

func TestDumpByHand(t *testing.T) {
	d := diskWith(24, impl.JSuper{Log: 16, Start: 14, Seq: 7}, txnOf(7, []int64{18, 20}, []int64{19, 23}), txnOf(8, nil, []int64{20}), txnOf(9, []int64{22}, nil))
	// Behind them: an old commit block, a superblock, a descriptor whose tags are nonsense, and the magic with a fifth kind.
	layAt(d, 16, 9, slices.Concat(impl.EncodeCommit(impl.Commit{Seq: 4294967295, Count: 3, Sum: 9}), impl.EncodeJSuper(impl.JSuper{Log: 20, Start: 3, Seq: 99}),
		plainBlock(2, 65535, 258, field{4294967295, 4}), plainBlock(5, 1, 6), filled(0)))
	want := []impl.LogLine{
		{Position: 1, Kind: 5, Txn: 1, Seq: 7, Block: 20},
		{Position: 2, Kind: 4, Txn: 1, Seq: 7},
		{Position: 3, Kind: 3, Txn: 2, Seq: 8},
		{Position: 4, Kind: 4, Txn: 2, Seq: 8},
		{Position: 5, Kind: 2, Txn: 3, Seq: 9},
		{Position: 6, Kind: 5, Txn: 3, Seq: 9, Block: 22},
		{Position: 7, Kind: 4, Txn: 3, Seq: 9},
		{Position: 8},
		{Position: 9, Kind: 4, Seq: 4294967295},
		{Position: 10, Kind: 1, Seq: 99},
		{Position: 11, Kind: 2, Seq: 258},
		{Position: 12},
		{Position: 13},
		{Position: 14, Kind: 3, Txn: 1, Seq: 7},
		{Position: 15, Kind: 2, Txn: 1, Seq: 7},
		{Position: 16, Kind: 5, Txn: 1, Seq: 7, Block: 18},
	}
	if got := impl.Dump(d); !slices.Equal(got, want) {
		t.Errorf("%v, not\n%v", got, want)
	}
	dumped(t, "by hand", d)
}

// The same blocks, while the superblock says that the log is empty: each tells of itself alone.
func TestDumpOfAnEmptyLog(t *testing.T) {
	d := diskWith(24, impl.JSuper{Log: 16, Seq: 7}, txnOf(7, []int64{18, 20}, []int64{19, 23}), txnOf(8, nil, []int64{20}))
	want := []impl.LogLine{
		{Position: 1, Kind: 3, Seq: 7}, {Position: 2, Kind: 2, Seq: 7}, {Position: 3}, {Position: 4}, {Position: 5, Kind: 4, Seq: 7},
		{Position: 6, Kind: 3, Seq: 8}, {Position: 7, Kind: 4, Seq: 8},
	}
	got := impl.Dump(d)
	if len(got) != 16 || !slices.Equal(got[:7], want) {
		t.Error(got)
	}
	dumped(t, "start 0", d)
	dumped(t, "start 0 of a new disk", diskWith(18, impl.JSuper{Log: 16, Seq: 1}))
	for _, line := range impl.Dump(diskWith(514, impl.JSuper{Log: 512, Seq: 1})) {
		if line.Kind != 0 || line.Txn != 0 || line.Seq != 0 || line.Block != 0 {
			t.Error("a block without the magic", line)
		}
	}
}

// Copies that are blocks of the journal themselves are copies, those of the magic too.
func TestDumpOfCopies(t *testing.T) {
	x := impl.Txn{Seq: 7}
	for i, b := range [][]byte{impl.EncodeCommit(impl.Commit{Seq: 7, Count: 2}), impl.EncodeJSuper(impl.JSuper{Log: 16, Seq: 7}), padded(magic...), filled(0), padded(0, 0, 0, 0, 4)} {
		x.Homes = append(x.Homes, impl.Home{Block: int64(30 + i), Data: b})
	}
	d := diskWith(40, impl.JSuper{Log: 16, Start: 16, Seq: 7}, x)
	dumped(t, "copies of journal blocks", d)
	for i, line := range impl.Dump(d)[:5] {
		if line != (impl.LogLine{Position: int64(1 + i), Kind: 5, Txn: 1, Seq: 7, Block: int64(30 + i)}) {
			t.Error(line)
		}
	}
	// Torn, its copies are of no kind, and the others tell of themselves.
	for i, line := range impl.Dump(diskLike(d, 2, 20, 1)) {
		if line.Txn != 0 || line.Block != 0 || (line.Kind != 0) != (i == 15 || i == 5) {
			t.Error("torn:", line)
		}
	}
}

// Several pieces of revokes and homes.
func TestDumpOfLongTransactions(t *testing.T) {
	for _, c := range []struct{ homes, revokes int }{{17, 0}, {18, 0}, {0, 26}, {0, 27}, {35, 53}, {128, 0}, {0, 128}, {64, 64}} {
		for _, start := range []int64{1, 70, 140} {
			x := txnOf(7, runOf(142, c.homes), runOf(300, c.revokes))
			d := diskWith(500, impl.JSuper{Log: 140, Start: start, Seq: 7}, x)
			dumped(t, "long", d)
			if lines := impl.Dump(d); lines[start-1].Txn != 1 {
				t.Error("of", c, "nothing was found")
			}
		}
	}
}

// Promise 24 along courses of logs: whole, torn in the last one, bent in the middle, and recovered.
func TestDumpOfCourses(t *testing.T) {
	t.Parallel()
	draw := rand.New(rand.NewSource(121))
	for _, size := range []int64{16, 17, 40, 100} {
		c := newCourse(size, 1+draw.Int63n(size), 1+draw.Int63n(50))
		dumped(t, "new", c.disk)
		for range 40 {
			x := c.drawOn(t, draw, 9)
			ops := impl.AppendOps(c.log, x)
			stopped := impl.DiskDo(c.disk, ops, draw.Int63n(int64(len(ops))))
			dumped(t, "torn", impl.DiskCrash(stopped, someKept(len(stopped.Pending))))
			c.take(t, x)
			dumped(t, "whole", c.disk)
			dumped(t, "bent", diskLike(c.disk, 2+draw.Int63n(size), draw.Intn(64), 1<<draw.Intn(8)))
			dumped(t, "recovered", impl.Recover(c.disk, -1).Disk)
		}
	}
}

// Every first five bytes that may be a header's, and their neighbours.
func TestDumpOfHeaders(t *testing.T) {
	for kind := range 256 {
		d := diskWith(18, impl.JSuper{Log: 16, Start: 2, Seq: 7})
		layAt(d, 16, 5, plainBlock(byte(kind), 65535, 4294967295, field{4294967295, 4}))
		dumped(t, "a kind", d)
		line := impl.Dump(d)[4]
		if known := 1 <= kind && kind <= 4; known && (line.Kind != int64(kind) || line.Seq != 4294967295) || !known && line != (impl.LogLine{Position: 5}) {
			t.Error(kind, line)
		}
	}
	for at := range 4 {
		d := diskWith(18, impl.JSuper{Log: 16, Start: 2, Seq: 7})
		b := bytes.Clone(plainBlock(2, 1, 9))
		b[at] ^= 1
		layAt(d, 16, 16, b)
		if line := impl.Dump(d)[15]; line != (impl.LogLine{Position: 16}) {
			t.Error("without the magic:", line)
		}
	}
}

// With a code there are no lines.
func TestDumpOfNoLog(t *testing.T) {
	for name, d := range brokenDisks() {
		if len(impl.Dump(d)) != 0 {
			t.Error(name)
		}
	}
	whole := diskWith(24, impl.JSuper{Log: 16, Start: 1, Seq: 7}, txnOf(7, []int64{20}, nil))
	for name, d := range map[string]impl.Disk{
		"one block":           numbered(1),
		"no superblock":       numbered(24),
		"too few blocks":      {Durable: whole.Durable[:17*64]},
		"a pending write":     impl.DiskWrite(whole, 3, filled(1)),
		"too large a number":  diskWith(24, impl.JSuper{Log: 16, Start: 1, Seq: 4294867296}),
		"a turned superblock": diskLike(whole, 1, 7, 1),
	} {
		if len(impl.Dump(d)) != 0 {
			t.Error(name)
		}
	}
	if len(impl.Dump(whole)) != 16 {
		t.Error("whole")
	}
}
