package tests

import (
	"bytes"
	"math"
	"math/rand"
	"slices"
	"testing"

	"loop.example/s01525/impl"
)

// widened gives the course's disk so many blocks more.
func (c *course) widened(blocks int) *course {
	c.disk.Durable = append(c.disk.Durable, numbered(blocks).Durable...)
	return c
}

// homesFrom is the first block behind the log, and how many blocks there are from it on.
func (c *course) homesFrom() (int64, int) {
	from := 2 + c.log.Size
	return from, len(c.disk.Durable)/64 - int(from)
}

// scanned asks whether ScanLog finds the superblock and exactly the transactions since the tail last went on.
func (c *course) scanned(t *testing.T) {
	t.Helper()
	want := impl.Found{Super: c.super, Txns: c.since}
	if got := impl.ScanLog(c.disk); value(got) != value(want) {
		t.Fatalf("%v: code %d, %v, %d transactions, not %v, %d", c.log, got.Code, got.Super, len(got.Txns), c.super, len(c.since))
	}
}

// drawOn draws a transaction for the course's log, and lets the tail go on where there is no room for it.
func (c *course) drawOn(t *testing.T, draw *rand.Rand, most int) impl.Txn {
	t.Helper()
	from, n := c.homesFrom()
	x := txnWithin(draw, c.log.Seq, from, n, most)
	if impl.TxnLength(x) > c.log.Size-c.log.Used || draw.Intn(8) == 0 {
		c.pass(t)
		c.scanned(t)
	}
	return x
}

// Promise 6: logs of several sizes, from several heads on, taken round their ends several times.
func TestScanFindsWhatWasTaken(t *testing.T) {
	t.Parallel()
	draw := rand.New(rand.NewSource(101))
	for _, s := range []struct {
		size             int64
		wide, most, many int
	}{{16, 0, 12, 60}, {16, 3, 3, 80}, {17, 0, 13, 60}, {23, 10, 18, 50}, {64, 40, 40, 40}, {137, 120, 128, 8}, {512, 1400, 128, 5}} {
		for _, head := range []int64{1, 2, s.size/2 + 1, s.size} {
			c := newCourse(s.size, head, 1+draw.Int63n(1000)).widened(s.wide)
			c.scanned(t)
			for range s.many {
				x := c.drawOn(t, draw, s.most)
				c.take(t, x)
				c.scanned(t)
			}
			if s.size < 64 && c.rounds < 5 {
				t.Error("a log of", s.size, "went only", c.rounds, "times round its end")
			}
		}
	}
}

// Promise 6: transactions of one length, so that old ones stand just where the scan goes on; and a log that is full.
func TestScanEndsAtOldOnes(t *testing.T) {
	t.Parallel()
	for homes := 1; homes <= 14; homes++ {
		for head := int64(1); head <= 16; head += 3 {
			c := newCourse(16, head, 5)
			full := 0
			for range 20 {
				x := txnOf(c.log.Seq, runOf(18, homes), nil)
				if impl.TxnLength(x) > c.log.Size-c.log.Used {
					c.pass(t)
					c.scanned(t)
				}
				c.take(t, x)
				c.scanned(t)
				if c.log.Used == 16 {
					full++
				}
			}
			if (homes == 14 || homes == 6 || homes == 2) && full == 0 {
				t.Error("a log of transactions of", homes, "homes was never full")
			}
		}
	}
}

// someKeeps are choices of the writes that are kept: all choices if they are few.
func someKeeps(draw *rand.Rand, n int) [][]int64 {
	var keeps [][]int64
	if n <= 5 {
		eachChoice(n, 2, func(keep []int64) { keeps = append(keeps, keep) })
		return keeps
	}
	keeps = append(keeps, nil, slices.Repeat([]int64{1}, n))
	for range 6 {
		one, other := slices.Repeat([]int64{1}, n), make([]int64, n)
		i := draw.Intn(n)
		one[i], other[i] = 0, 1
		keep := make([]int64, n)
		for i := range keep {
			keep[i] = draw.Int63n(2)
		}
		keeps = append(keeps, one, other, keep)
	}
	first, last := slices.Repeat([]int64{1}, n), slices.Repeat([]int64{1}, n)
	first[0], last[n-1] = 0, 0
	return append(keeps, first, last)
}

// torn counts what came of the last transaction: whether it was found, and whether it was though a write of it was lost.
type torn struct {
	found, lost, without int
}

// tear stops the operations of one more transaction anywhere, and crashes with some writes kept.
func (c *course) tear(t *testing.T, draw *rand.Rand, x impl.Txn, n *torn) {
	t.Helper()
	ops := impl.AppendOps(c.log, x)
	if len(ops) == 0 {
		t.Fatal(c.log, "does not take", impl.TxnLength(x), "blocks")
	}
	for limit := range int64(len(ops) + 1) {
		d := impl.DiskDo(c.disk, ops, limit)
		for _, keep := range someKeeps(draw, len(d.Pending)) {
			c.checkTorn(t, impl.DiskCrash(d, keep), x, n, slices.Contains(keep, 0) || limit < int64(len(ops)-1))
		}
	}
}

// checkTorn is promise 7: the transactions ahead are found, and this one exactly if all its bytes stand there.
func (c *course) checkTorn(t *testing.T, d impl.Disk, x impl.Txn, n *torn, incomplete bool) {
	t.Helper()
	b := impl.TxnBlocks(x)
	there := make([]byte, 0, len(b))
	for i := range impl.TxnLength(x) {
		at := (1 + stepOn(c.log.Head, i, c.log.Size)) * 64
		there = append(there, d.Durable[at:at+64]...)
	}
	want := impl.Found{Super: superKind().parse(d.Durable[64:128]).(impl.JSuper), Txns: slices.Clone(c.since)}
	if bytes.Equal(b, there) {
		want.Txns = append(want.Txns, x)
		n.found++
		if incomplete {
			n.without++
		}
	} else {
		n.lost++
	}
	if got := impl.ScanLog(d); value(got) != value(want) {
		t.Fatalf("%v: code %d, %v, %d transactions, not %v, %d", c.log, got.Code, got.Super, len(got.Txns), want.Super, len(want.Txns))
	}
}

// Promise 7: stopped at each operation, with many choices of kept writes, where old blocks stand in the log as well.
func TestScanOfTornTransactions(t *testing.T) {
	t.Parallel()
	draw := rand.New(rand.NewSource(102))
	for _, s := range []struct {
		size             int64
		wide, most, many int
	}{{16, 0, 3, 60}, {16, 0, 12, 40}, {17, 0, 4, 40}, {40, 20, 30, 20}, {200, 120, 128, 4}} {
		var n torn
		c := newCourse(s.size, 1+draw.Int63n(s.size), 1+draw.Int63n(1000)).widened(s.wide)
		for range s.many {
			x := c.drawOn(t, draw, s.most)
			c.tear(t, draw, x, &n)
			c.take(t, x)
		}
		if n.found < s.many || n.lost < 10*s.many {
			t.Error("a log of", s.size, "found", n.found, "and lost", n.lost)
		}
	}
}

// Promise 7: the first transaction of an empty log, whose superblock is written ahead of it.
func TestScanOfTornFirstTransactions(t *testing.T) {
	draw := rand.New(rand.NewSource(103))
	var n torn
	for head := int64(1); head <= 16; head++ {
		for _, x := range []impl.Txn{txnOf(9, []int64{18}, nil), txnOf(9, nil, []int64{37}), txnOf(9, []int64{18, 37}, []int64{20}), txnOf(9, runOf(18, 14), nil)} {
			newCourse(16, head, 9).tear(t, draw, x, &n)
		}
	}
	if n.found < 64 || n.lost < 1000 {
		t.Error("found", n.found, "and lost", n.lost)
	}
}

// Promise 7: the same data come again at the same positions, so that a copy stands there though its write was lost.
func TestScanOfTornOverTheSameBytes(t *testing.T) {
	draw := rand.New(rand.NewSource(104))
	var n torn
	c := newCourse(16, 3, 9)
	for range 12 {
		x := txnOf(c.log.Seq, []int64{18, 19}, nil)
		if c.log.Used == 16 {
			c.pass(t)
		}
		c.tear(t, draw, x, &n)
		c.take(t, x)
	}
	if n.without < 12 {
		t.Error("only", n.without, "were whole without all their writes")
	}
}

// A whole transaction is not found behind a torn one, nor one whose number comes twice.
func TestScanGoesByNumbers(t *testing.T) {
	one := func(seq int64) impl.Txn { return txnOf(seq, []int64{20}, []int64{21}) }
	for _, c := range []struct {
		name string
		txns []impl.Txn
		want int
	}{
		{"none", nil, 0},
		{"in a row", []impl.Txn{one(7), one(8), one(9), one(10)}, 4},
		{"the first is older", []impl.Txn{one(6), one(7), one(8)}, 0},
		{"the first is younger", []impl.Txn{one(8), one(9)}, 0},
		{"an old one behind the last", []impl.Txn{one(7), one(8), one(5), one(9)}, 2},
		{"one is left out", []impl.Txn{one(7), one(9), one(10)}, 1},
		{"one comes twice", []impl.Txn{one(7), one(7), one(8)}, 1},
		{"the first once more", []impl.Txn{one(7), one(8), one(7)}, 2},
		{"the number of a byte more", []impl.Txn{one(7), one(8 + 256)}, 1},
		{"the largest number", []impl.Txn{one(7), one(4294967295)}, 1},
	} {
		for start := int64(1); start <= 16; start++ {
			d := diskWith(24, impl.JSuper{Log: 16, Start: start, Seq: 7}, c.txns...)
			if got := checkJournal(t, c.name, d); len(got.Txns) != c.want {
				t.Errorf("%s: %d are found, not %d", c.name, len(got.Txns), c.want)
			}
		}
	}
}

// The codes, in their order.
func TestScanCodes(t *testing.T) {
	for name, d := range brokenDisks() {
		if got := impl.ScanLog(d); value(got) != value(impl.Found{Code: 1}) {
			t.Error(name, got.Code)
		}
		checkJournal(t, name, d)
	}
	whole := diskWith(24, impl.JSuper{Log: 16, Start: 1, Seq: 7}, txnOf(7, []int64{20}, nil))
	for name, c := range map[string]struct {
		d    impl.Disk
		code int64
	}{
		"whole":                            {whole, 0},
		"a pending write":                  {impl.DiskWrite(whole, 20, filled(1)), 1},
		"a pending write like the block":   {impl.DiskWrite(whole, 20, whole.Durable[20*64:21*64]), 1},
		"pending writes of no superblock":  {withWrites(numbered(24), 1), 1},
		"one block":                        {numbered(1), 2},
		"one block with a pending write":   {withWrites(numbered(1), 0), 1},
		"two blocks":                       {impl.Disk{Durable: whole.Durable[:128]}, 2},
		"1 + Log blocks":                   {impl.Disk{Durable: whole.Durable[:17*64]}, 2},
		"2 + Log blocks":                   {impl.Disk{Durable: whole.Durable[:18*64]}, 0},
		"3 + Log blocks":                   {impl.Disk{Durable: whole.Durable[:19*64]}, 0},
		"no superblock":                    {numbered(24), 2},
		"zeros":                            {impl.NewDisk(24), 2},
		"no superblock, the number large":  {diskLike(diskWith(24, impl.JSuper{Log: 16, Seq: 4294967295}), 1, 63, 1), 2},
		"too few blocks, the number large": {diskWith(24, impl.JSuper{Log: 23, Seq: 4294967295}), 2},
		"a log of 15":                      {diskWith(24, impl.JSuper{Log: 15, Seq: 7}), 2},
		"a log of 513":                     {diskWith(600, impl.JSuper{Log: 513, Seq: 7}), 2},
		"a log of 512 and 513 blocks":      {diskWith(513, impl.JSuper{Log: 512, Seq: 7}), 2},
		"a log of 512 and 514 blocks":      {diskWith(514, impl.JSuper{Log: 512, Seq: 7}), 0},
		"a start behind the log":           {diskWith(24, impl.JSuper{Log: 16, Start: 17, Seq: 7}), 2},
		"number 0":                         {diskWith(24, impl.JSuper{Log: 16, Seq: 0}), 2},
	} {
		if got := impl.ScanLog(c.d); got.Code != c.code || c.code != 0 && value(got) != value(impl.Found{Code: c.code}) {
			t.Errorf("%s: code %d, not %d", name, got.Code, c.code)
		}
		checkJournal(t, name, c.d)
	}
}

// Block 1 is another kind of block, or a superblock with one bit turned.
func TestScanOfOtherBlocks(t *testing.T) {
	whole := diskWith(24, impl.JSuper{Log: 16, Start: 1, Seq: 7}, txnOf(7, []int64{20}, nil))
	for _, b := range [][]byte{
		impl.EncodeDescriptor(impl.Descriptor{Seq: 7, Tags: []impl.Tag{{Block: 20}}}), impl.EncodeRevoke(impl.Revoke{Seq: 7, Blocks: []int64{20}}),
		impl.EncodeCommit(impl.Commit{Seq: 7, Count: 16, Sum: 5}), whole.Durable[128:192], filled(0), filled(255), padded(magic...),
	} {
		d := impl.Disk{Durable: bytes.Clone(whole.Durable)}
		copy(d.Durable[64:128], b)
		if got := impl.ScanLog(d); value(got) != value(impl.Found{Code: 2}) {
			t.Error("a block of kind", impl.BlockKind(b), "has code", got.Code)
		}
		checkJournal(t, "another block", d)
	}
	for bit := range 512 {
		d := diskLike(whole, 1, bit/8, 1<<(bit%8))
		if got := impl.ScanLog(d); value(got) != value(impl.Found{Code: 2}) {
			t.Error("bit", bit, "of the superblock turned: code", got.Code)
		}
	}
}

// The superblock's numbers at their edges: of transactions, of starts, of logs.
func TestScanSuperblocks(t *testing.T) {
	for _, seq := range []int64{1, 2, 4294767295, 4294867294, 4294867295, 4294867296, 4294867297, 4294967294, 4294967295} {
		for _, start := range []int64{0, 1, 2, 15, 16} {
			x := txnOf(seq, []int64{18, 23}, []int64{20})
			f := checkJournal(t, "one transaction", diskWith(24, impl.JSuper{Log: 16, Start: start, Seq: seq}, x))
			switch {
			case seq > 4294867295:
				if f.Code != 3 {
					t.Error("number", seq, "has code", f.Code)
				}
			case start == 0:
				if len(f.Txns) != 0 || f.Super != (impl.JSuper{Log: 16, Seq: seq}) {
					t.Error("start 0 finds", len(f.Txns))
				}
			case len(f.Txns) != 1:
				t.Error("start", start, "number", seq, "finds", len(f.Txns))
			}
		}
	}
	for _, size := range []int64{16, 17, 100, 511, 512} {
		for _, start := range []int64{0, 1, size - 1, size} {
			txns := []impl.Txn{txnOf(1, []int64{2 + size}, nil), txnOf(2, []int64{2 + size, 6 + size}, nil), txnOf(3, nil, []int64{4 + size})}
			f := checkJournal(t, "a log", diskWith(int(size)+7, impl.JSuper{Log: size, Start: start, Seq: 1}, txns...))
			if want := 3 * min(start, 1); int64(len(f.Txns)) != want {
				t.Error("a log of", size, "from", start, "on:", len(f.Txns))
			}
		}
	}
}

// A transaction that fills the log to its last position, alone or behind others, wherever it starts.
func TestScanOfFullLogs(t *testing.T) {
	for start := int64(1); start <= 16; start++ {
		for _, counts := range [][]int{{14}, {1, 11}, {6, 6}, {2, 2, 2, 2}, {1, 1, 1, 1, 2}, {1, 1, 1, 1, 1}} {
			var txns []impl.Txn
			used := int64(0)
			for i, n := range counts {
				txns = append(txns, txnOf(int64(3+i), runOf(18, n), nil))
				used += impl.TxnLength(txns[i])
			}
			if used < 15 || used > 16 {
				t.Fatal("these do not fill the log:", counts)
			}
			f := checkJournal(t, "a full log", diskWith(40, impl.JSuper{Log: 16, Start: start, Seq: 3}, txns...))
			if value(f.Txns) != value(txns) {
				t.Error("of", counts, "from", start, "on", len(f.Txns), "are found")
			}
		}
	}
	whole := txnOf(3, runOf(139, 128), nil)
	f := checkJournal(t, "the longest", diskWith(300, impl.JSuper{Log: 137, Start: 99, Seq: 3}, whole))
	if len(f.Txns) != 1 {
		t.Error("128 homes in a log of 137:", len(f.Txns))
	}
}

// Homes and revokes at both ends of the blocks that may be changed, and beyond.
func TestScanOfHomesAtTheEnds(t *testing.T) {
	for block, good := range map[int64]bool{0: false, 1: false, 2: false, 16: false, 17: false, 18: true, 19: true, 22: true, 23: true, 24: false, 25: false, 2047: false} {
		for _, x := range []impl.Txn{
			txnOf(8, []int64{block}, nil), txnOf(8, nil, []int64{block}),
			txnOf(8, risen(block, 20), nil), txnOf(8, nil, risen(block, 20)),
			txnOf(8, []int64{20}, []int64{block}), txnOf(8, []int64{block}, []int64{20}),
		} {
			first, last := txnOf(7, []int64{20}, nil), txnOf(9, []int64{20}, nil)
			want := 1
			if good {
				want = 3
			}
			f := checkJournal(t, "homes at the ends", diskWith(24, impl.JSuper{Log: 16, Start: 5, Seq: 7}, first, x, last))
			if len(f.Txns) != want {
				t.Error("with block", block, "in the middle", len(f.Txns), "are found")
			}
		}
	}
}

func risen(a, b int64) []int64 {
	return []int64{min(a, b), max(a, b)}
}

// Each single bit of a log bent: what stands ahead of it is found, and nothing from it on.
func TestScanOfBentLogs(t *testing.T) {
	txns := []impl.Txn{txnOf(7, []int64{18, 23}, []int64{20}), txnOf(8, []int64{19}, nil), txnOf(9, nil, []int64{18, 19}), txnOf(10, []int64{20, 21}, nil)}
	whole := diskWith(24, impl.JSuper{Log: 16, Start: 6, Seq: 7}, txns...)
	p := int64(6)
	for i, x := range txns {
		for range impl.TxnLength(x) {
			for bit := range 512 {
				f := impl.ScanLog(diskLike(whole, 1+p, bit/8, 1<<(bit%8)))
				if value(f.Txns) != value(txns[:i]) {
					t.Fatalf("bit %d at position %d bent: %d are found, not %d", bit, p, len(f.Txns), i)
				}
			}
			checkJournal(t, "bent", diskLike(whole, 1+p, int(p), 64))
			p = stepOn(p, 1, 16)
		}
	}
	for ; p != 6; p = stepOn(p, 1, 16) {
		if f := impl.ScanLog(diskLike(whole, 1+p, 9, 255)); value(f.Txns) != value(txns) {
			t.Error("bytes behind the last one play no part, at position", p)
		}
	}
}

// Logs full of blocks that stand anywhere: whole ones, pieces of others, old numbers.
func TestScanOfDrawnLogs(t *testing.T) {
	t.Parallel()
	draw := rand.New(rand.NewSource(105))
	found := map[int]int{}
	for range 1500 {
		size := 16 + draw.Int63n(12)
		d := diskWith(int(size)+12, impl.JSuper{Log: size, Start: draw.Int63n(size + 1), Seq: 5})
		p := max(1, impl.ScanLog(d).Super.Start)
		seq := int64(5)
		for left := size; left > 0; {
			x := txnWithin(draw, seq, 2+size-int64(draw.Intn(30)/29), 10, 5)
			if draw.Intn(9) == 0 {
				x.Seq += draw.Int63n(3) - 1
			}
			b := plainTxn(x)
			if draw.Intn(9) == 0 {
				b = b[:64*draw.Intn(len(b)/64)]
			}
			b = b[:min(len(b), int(64*left))]
			p = layAt(d, size, p, b)
			left -= int64(len(b) / 64)
			seq++
		}
		found[len(checkJournal(t, "drawn", d).Txns)]++
	}
	if len(found) < 5 {
		t.Error("how many were found:", found)
	}
}

func TestSeqRoom(t *testing.T) {
	if impl.SeqRoom != 100000 || impl.KindCopy != 5 || impl.ErrJournal != 2 || impl.ErrSeq != 3 || impl.ErrDisk != 1 {
		t.Error("the constants of the chapter")
	}
	for _, n := range []int64{math.MinInt64, math.MaxInt64} {
		d := diskWith(24, impl.JSuper{Log: 16, Start: 1, Seq: 7}, txnOf(7, []int64{20}, nil))
		d.Pending = []impl.Write{{Block: n, Data: filled(1)}}
		if got := impl.ScanLog(d); value(got) != value(impl.Found{Code: 1}) {
			t.Error("a pending write of block", n)
		}
	}
}
