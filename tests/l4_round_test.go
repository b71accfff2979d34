package tests

import (
	"bytes"
	"math/rand"
	"slices"
	"testing"

	"loop.example/s01525/impl"
)

// course is a disk, the log that lies on it, and what went into it since the tail last went on.
type course struct {
	disk   impl.Disk
	log    impl.Log
	super  impl.JSuper
	since  []impl.Txn
	begins []int64
	rounds int
}

// newCourse is a disk with an empty log of this size that begins anywhere, and some numbered blocks around it.
func newCourse(size, head, seq int64) *course {
	super := impl.JSuper{Log: size, Seq: seq}
	d := numbered(int(2 + size + 20))
	copy(d.Durable[64:], superKind().plain(super))
	return &course{disk: d, log: impl.Log{Size: size, Seq: seq, Head: head}, super: super}
}

// do carries out operations that end with a flush, and looks at what they may change.
func (c *course) do(t *testing.T, ops []impl.Op) {
	t.Helper()
	before := c.disk.Durable
	c.disk = impl.DiskDo(c.disk, ops, -1)
	if len(c.disk.Durable) != len(before) || len(c.disk.Pending) != 0 {
		t.Fatal("the operations are refused, or something is pending behind them")
	}
	home := (2 + c.log.Size) * 64
	if !bytes.Equal(c.disk.Durable[:64], before[:64]) || !bytes.Equal(c.disk.Durable[home:], before[home:]) {
		t.Fatal("a block outside of the journal was written")
	}
}

// take brings a transaction in.
func (c *course) take(t *testing.T, x impl.Txn) {
	t.Helper()
	ops := impl.AppendOps(c.log, x)
	next := impl.LogNext(c.log, x)
	if len(ops) == 0 || !impl.ValidLog(next) {
		t.Fatal(c.log, "does not take", impl.TxnLength(x), "blocks")
	}
	first := 0
	if c.log.Start == 0 {
		first = 2
		c.super = impl.JSuper{Log: c.log.Size, Start: c.log.Head, Seq: c.log.Seq}
	}
	for i, op := range ops {
		if flush := op.Kind == impl.OpFlush; flush != (i == len(ops)-1 || i == first-1) {
			t.Fatal("operation", i, "of", len(ops), "is a flush, or should be one")
		}
	}
	if next.Head < c.log.Head {
		c.rounds++
	}
	c.do(t, ops)
	c.since, c.begins = append(c.since, x), append(c.begins, c.log.Head)
	c.log = next
	c.check(t)
}

// pass lets the tail go on to the head.
func (c *course) pass(t *testing.T) {
	t.Helper()
	ops := impl.TailOps(c.log)
	next := impl.LogTail(c.log)
	if c.log.Used > 0 {
		c.super = impl.JSuper{Log: c.log.Size, Start: c.log.Head, Seq: c.log.Seq}
	} else if len(ops) != 0 || next != c.log {
		t.Fatal("nothing is in use, and yet the tail goes on")
	}
	c.do(t, ops)
	c.log, c.since, c.begins = next, nil, nil
	c.check(t)
}

// check asks whether the superblock and all since the last tail stand where they should, and nothing else is found.
func (c *course) check(t *testing.T) {
	t.Helper()
	if got := impl.DiskRead(c.disk, 1); !bytes.Equal(got, superKind().plain(c.super)) {
		t.Fatal("the superblock is", impl.DecodeJSuper(got), "not", c.super)
	}
	for i, x := range c.since {
		b := c.read(c.begins[i], impl.TxnLength(x))
		if !bytes.Equal(b, impl.TxnBlocks(x)) || value(impl.ReadTxn(b)) != value(impl.TxnResult{Good: true, Txn: x}) {
			t.Fatal("transaction", i, "does not stand where it should")
		}
	}
	if got := c.found(t); value(got) != value(c.since) {
		t.Fatalf("%d transactions are found, not %d", len(got), len(c.since))
	}
}

// read are n blocks of the log from a position on.
func (c *course) read(p, n int64) []byte {
	var b []byte
	for range n {
		b = append(b, impl.DiskRead(c.disk, 1+p)...)
		p = stepOn(p, 1, c.log.Size)
	}
	return b
}

// fromOn is the log from a position on, once round.
func (c *course) fromOn(p int64) []byte {
	log := impl.DiskImage(c.disk)[2*64 : (2+c.log.Size)*64]
	return slices.Concat(log[(p-1)*64:], log[:(p-1)*64])
}

// found is what can be read from the superblock's start on, one whole transaction behind the other.
func (c *course) found(t *testing.T) []impl.Txn {
	t.Helper()
	var found []impl.Txn
	p, q, left := c.super.Start, c.super.Seq, c.super.Log
	for p != 0 {
		var good []int64
		var next impl.Txn
		b := c.fromOn(p)
		for n := range left + 1 {
			if r := impl.ReadTxn(b[:n*64]); r.Good && r.Txn.Seq == q {
				good, next = append(good, n), r.Txn
			}
		}
		if len(good) == 0 {
			break
		}
		if len(good) > 1 {
			t.Fatal("two transactions begin at", p, "of", good, "blocks")
		}
		found = append(found, next)
		p, q, left = stepOn(p, good[0], c.super.Log), q+1, left-good[0]
	}
	return found
}

// Promise 6, as far as this layer goes: a log of the least size, taken round its end by transactions of all
// lengths that it has room for, the tail going on only when there is no room.
func TestLogRoundAndRound(t *testing.T) {
	t.Parallel()
	for head := int64(1); head <= 16; head++ {
		c := newCourse(16, head, 100*head)
		c.check(t)
		c.pass(t)
		for i := range 60 {
			n := 1 + i*7%13
			x := txnOf(c.log.Seq, runOf(18+int64(i%5), n), nil)
			if i%3 == 0 {
				x = txnOf(c.log.Seq, nil, runOf(18, n+i))
			}
			if impl.TxnLength(x) > c.log.Size-c.log.Used {
				if len(impl.AppendOps(c.log, x)) != 0 || impl.LogNext(c.log, x) != (impl.Log{}) {
					t.Fatal("taken without room")
				}
				c.pass(t)
			}
			c.take(t, x)
		}
		if c.rounds < 10 {
			t.Error("only", c.rounds, "times round the end")
		}
	}
}

// The same transaction again and again, of each length, until the log is full to its last position or has no room.
func TestLogOfEqualLengths(t *testing.T) {
	t.Parallel()
	full := 0
	for n := 1; n <= 14; n++ {
		for head := int64(1); head <= 16; head += 5 {
			c := newCourse(16, head, 1)
			for range 20 {
				x := txnOf(c.log.Seq, runOf(20, n), nil)
				if impl.TxnLength(x) > c.log.Size-c.log.Used {
					c.pass(t)
				}
				c.take(t, x)
				if c.log.Used == c.log.Size {
					full++
				}
			}
			if c.log.Seq != 21 {
				t.Error("the number behind 20 transactions is", c.log.Seq)
			}
		}
	}
	if full == 0 {
		t.Error("no log was full to its last position")
	}
}

// Tails at any time, also where nothing is in use; logs of any size; numbers up to the last one.
func TestLogDrawnCourse(t *testing.T) {
	t.Parallel()
	draw := rand.New(rand.NewSource(91))
	for _, size := range []int64{16, 17, 23, 40, 137, 200, 512} {
		many := 60
		if size > 100 {
			many = 15
		}
		c := newCourse(size, 1+draw.Int63n(size), 4294967295-int64(many))
		for range many {
			x := drawnTxn(draw, c.log.Seq, int(min(size/2, 128)))
			if impl.TxnLength(x) > c.log.Size-c.log.Used || draw.Intn(6) == 0 {
				c.pass(t)
				c.pass(t)
			}
			if impl.TxnLength(x) <= size {
				c.take(t, x)
			}
		}
		if size == 16 && c.rounds < 5 {
			t.Error("only", c.rounds, "times round the end")
		}
	}
}

// The last number is taken by nobody, and the tail still goes on.
func TestLogAtTheLastNumber(t *testing.T) {
	c := newCourse(16, 5, 4294967293)
	c.take(t, txnOf(4294967293, []int64{20}, nil))
	c.take(t, txnOf(4294967294, []int64{20}, []int64{21}))
	x := txnOf(4294967295, []int64{20}, nil)
	if !impl.ValidTxn(x) || !impl.ValidLog(c.log) || len(impl.AppendOps(c.log, x)) != 0 || impl.LogNext(c.log, x) != (impl.Log{}) {
		t.Error("the last number is taken")
	}
	c.pass(t)
	if c.super != (impl.JSuper{Log: 16, Start: 12, Seq: 4294967295}) {
		t.Error("the superblock says", c.super)
	}
}

// Nothing of a transaction reaches the disk while the superblock there says that the log is empty: whatever is
// lost of the operations ahead of any one of them, the superblock is durable before the first of the blocks.
func TestFirstAppendStopped(t *testing.T) {
	x := txnOf(7, []int64{20, 21}, []int64{30})
	for head := int64(1); head <= 16; head++ {
		c := newCourse(16, head, 7)
		ops := impl.AppendOps(c.log, x)
		for limit := range int64(len(ops) + 1) {
			d := impl.DiskDo(c.disk, ops, limit)
			for i := range d.Pending {
				keep := make([]int64, len(d.Pending))
				keep[i] = 1
				super := impl.DecodeJSuper(impl.DiskRead(impl.DiskCrash(d, keep), 1))
				if d.Pending[i].Block != 1 && super.Super != (impl.JSuper{Log: 16, Start: head, Seq: 7}) {
					t.Fatal("a block reached the log while the superblock said", super)
				}
			}
		}
		if got := placesOf(ops)[:2]; !slices.Equal(got, []int64{1, 0}) {
			t.Fatal("not the superblock and a flush first:", got)
		}
	}
}

// Blocks of a transaction that never got there leave the others as they were: with any one of its blocks missing,
// what is found is what was there, and with all of them it is found too.
func TestLogWithABlockMissing(t *testing.T) {
	draw := rand.New(rand.NewSource(92))
	c := newCourse(16, 11, 7)
	for range 40 {
		x := drawnTxn(draw, c.log.Seq, 8)
		if impl.TxnLength(x) > c.log.Size-c.log.Used {
			c.pass(t)
		}
		if c.log.Start == 0 {
			c.take(t, x)
			continue
		}
		whole := impl.DiskDo(c.disk, impl.AppendOps(c.log, x), int64(impl.TxnLength(x)))
		was := c.disk
		for i := range whole.Pending {
			keep := slices.Repeat([]int64{1}, len(whole.Pending))
			keep[i] = 0
			c.disk = impl.DiskCrash(whole, keep)
			if got := c.found(t); value(got) != value(c.since) {
				t.Fatalf("without block %d of the last one %d are found, not %d", i, len(got), len(c.since))
			}
		}
		c.disk = was
		c.take(t, x)
	}
}
