package tests

import (
	"math"
	"math/rand"
	"slices"
	"testing"

	"loop.example/s01525/impl"
)

// stepOn goes from a position of the log n positions on, one by one.
func stepOn(p, n, size int64) int64 {
	for range n {
		p++
		if p > size {
			p = 1
		}
	}
	return p
}

// isLog is what the document asks of a valid log, rule by rule.
func isLog(l impl.Log) bool {
	if l.Size < 16 || l.Size > 512 || l.Start < 0 || l.Start > l.Size || !isSeq(l.Seq) {
		return false
	}
	if l.Head < 1 || l.Head > l.Size || l.Used < 0 || l.Used > l.Size {
		return false
	}
	if l.Start == 0 {
		return l.Used == 0
	}
	return stepOn(l.Start, l.Used, l.Size) == l.Head
}

// plainStart are the operations that bring the superblock to the disk.
func plainStart(l impl.Log) []impl.Op {
	super := superKind().plain(impl.JSuper{Log: l.Size, Start: l.Head, Seq: l.Seq})
	return []impl.Op{{Kind: 1, Block: 1, Data: super}, {Kind: 2}}
}

// plainAppend is what AppendOps and LogNext have to answer.
func plainAppend(l impl.Log, x impl.Txn) ([]impl.Op, impl.Log) {
	if !isLog(l) || !isTxn(x) || l.Seq != x.Seq || l.Seq == 4294967295 {
		return nil, impl.Log{}
	}
	b := plainTxn(x)
	length := int64(len(b) / 64)
	if length > l.Size-l.Used {
		return nil, impl.Log{}
	}
	next := impl.Log{Size: l.Size, Start: l.Start, Seq: l.Seq + 1, Head: stepOn(l.Head, length, l.Size), Used: l.Used + length}
	var ops []impl.Op
	if l.Start == 0 {
		ops = plainStart(l)
		next.Start = l.Head
	}
	for i := range length {
		ops = append(ops, impl.Op{Kind: 1, Block: 1 + stepOn(l.Head, i, l.Size), Data: b[i*64 : i*64+64]})
	}
	return append(ops, impl.Op{Kind: 2}), next
}

// checkAppend holds AppendOps and LogNext against the document, and tells whether the log takes the transaction.
func checkAppend(t *testing.T, l impl.Log, x impl.Txn) bool {
	t.Helper()
	ops, next := plainAppend(l, x)
	if got := impl.AppendOps(l, x); value(got) != value(ops) {
		t.Errorf("AppendOps of %v, seq %d, %d homes, %d revokes:\n%v, not\n%v", l, x.Seq, len(x.Homes), len(x.Revokes), got, ops)
	}
	if got := impl.LogNext(l, x); got != next {
		t.Errorf("LogNext of %v, seq %d, %d homes, %d revokes: %v, not %v", l, x.Seq, len(x.Homes), len(x.Revokes), got, next)
	}
	return len(ops) > 0
}

// checkLog holds what is told of a log alone, valid or not, against the document.
func checkLog(t *testing.T, l impl.Log) {
	t.Helper()
	valid := isLog(l)
	if impl.ValidLog(l) != valid {
		t.Errorf("ValidLog of %v is %v", l, !valid)
	}
	var ops []impl.Op
	var tail impl.Log
	if valid {
		tail = l
		if l.Used > 0 {
			ops = plainStart(l)
			tail.Start, tail.Used = l.Head, 0
		}
	}
	if got := impl.TailOps(l); value(got) != value(ops) {
		t.Errorf("TailOps of %v: %v, not %v", l, got, ops)
	}
	if got := impl.LogTail(l); got != tail {
		t.Errorf("LogTail of %v: %v, not %v", l, got, tail)
	}
}

// Each Start, Head and Used of small logs, one too small and one too large among them.
func TestSmallLogs(t *testing.T) {
	valid := 0
	for _, size := range []int64{15, 16, 17} {
		for start := int64(-1); start <= size+1; start++ {
			for head := int64(-1); head <= size+1; head++ {
				for used := int64(-1); used <= size+1; used++ {
					l := impl.Log{Size: size, Start: start, Seq: 9, Head: head, Used: used}
					checkLog(t, l)
					if impl.ValidLog(l) {
						valid++
					}
				}
			}
		}
	}
	// An empty log has any head; with a start, each number in use has one.
	if want := 16 + 16*17 + 17 + 17*18; valid != want {
		t.Error(valid, "are valid, not", want)
	}
}

func TestLogEdges(t *testing.T) {
	odd := []int64{math.MinInt64, math.MinInt64 + 1, -1 << 32, -2, -1, 0, 1, 2, 1 << 32, math.MaxInt64 - 1, math.MaxInt64}
	sizes := append([]int64{14, 15, 16, 17, 511, 512, 513, 65552}, odd...)
	for _, size := range sizes {
		near := append([]int64{3, 15, 16, 17, 511, 512, 513}, odd...)
		for _, start := range near {
			for _, head := range near {
				for _, used := range append([]int64{13, 14, 509, 510}, near...) {
					checkLog(t, impl.Log{Size: size, Start: start, Seq: 9, Head: head, Used: used})
				}
			}
		}
	}
	for _, seq := range seqEdges {
		for _, l := range []impl.Log{{Size: 16, Head: 3}, {Size: 512, Start: 512, Head: 1, Used: 1}, {Size: 16, Start: 4, Head: 4}, {Size: 16, Start: 4, Head: 4, Used: 16}} {
			l.Seq = seq
			checkLog(t, l)
		}
	}
	checkLog(t, impl.Log{})
}

func TestLogsByHand(t *testing.T) {
	for _, c := range []struct {
		l     impl.Log
		valid bool
	}{
		{impl.Log{Size: 16, Start: 15, Seq: 7, Head: 1, Used: 2}, true},
		{impl.Log{Size: 16, Start: 15, Seq: 7, Head: 16, Used: 1}, true},
		{impl.Log{Size: 16, Start: 15, Seq: 7, Head: 15, Used: 0}, true},
		{impl.Log{Size: 16, Start: 15, Seq: 7, Head: 15, Used: 16}, true},
		{impl.Log{Size: 16, Start: 15, Seq: 7, Head: 1, Used: 1}, false},
		{impl.Log{Size: 16, Start: 15, Seq: 7, Head: 17, Used: 2}, false},
		{impl.Log{Size: 16, Start: 15, Seq: 7, Head: 15, Used: 32}, false},
		{impl.Log{Size: 16, Start: 0, Seq: 7, Head: 9, Used: 0}, true},
		{impl.Log{Size: 16, Start: 0, Seq: 7, Head: 1, Used: 1}, false},
		{impl.Log{Size: 512, Start: 512, Seq: 4294967295, Head: 512, Used: 512}, true},
		{impl.Log{Size: 513, Start: 512, Seq: 7, Head: 512, Used: 0}, false},
		{impl.Log{Size: 15, Start: 15, Seq: 7, Head: 15, Used: 0}, false},
	} {
		if impl.ValidLog(c.l) != c.valid {
			t.Error(c.l, "is valid:", !c.valid)
		}
	}
	full := impl.Log{Size: 16, Start: 15, Seq: 4294967295, Head: 15, Used: 16}
	if len(impl.TailOps(full)) != 2 || impl.LogTail(full) != (impl.Log{Size: 16, Start: 15, Seq: 4294967295, Head: 15}) {
		t.Error("the tail of a full log goes on, whatever its number")
	}
}

func placesOf(ops []impl.Op) []int64 {
	places := []int64{}
	for _, o := range ops {
		places = append(places, o.Block)
	}
	return places
}

// The example of the chapter's end.
func TestAppendOfTheDocument(t *testing.T) {
	x := txnOf(7, []int64{100}, nil)
	for _, c := range []struct {
		l      impl.Log
		places []int64
		next   impl.Log
	}{
		{impl.Log{Size: 16, Start: 15, Seq: 7, Head: 1, Used: 2}, []int64{2, 3, 4, 0}, impl.Log{Size: 16, Start: 15, Seq: 8, Head: 4, Used: 5}},
		{impl.Log{Size: 16, Start: 15, Seq: 7, Head: 16, Used: 1}, []int64{17, 2, 3, 0}, impl.Log{Size: 16, Start: 15, Seq: 8, Head: 3, Used: 4}},
		{impl.Log{Size: 16, Start: 0, Seq: 7, Head: 16, Used: 0}, []int64{1, 0, 17, 2, 3, 0}, impl.Log{Size: 16, Start: 16, Seq: 8, Head: 3, Used: 3}},
		{impl.Log{Size: 16, Start: 16, Seq: 7, Head: 16, Used: 0}, []int64{17, 2, 3, 0}, impl.Log{Size: 16, Start: 16, Seq: 8, Head: 3, Used: 3}},
	} {
		checkAppend(t, c.l, x)
		ops := impl.AppendOps(c.l, x)
		if !slices.Equal(placesOf(ops), c.places) || impl.LogNext(c.l, x) != c.next {
			t.Error(c.l, placesOf(ops), impl.LogNext(c.l, x))
		}
	}
}

// Every valid log of the least size, with transactions of each length that is around its room.
func TestAppendToSmallLogs(t *testing.T) {
	t.Parallel()
	// Their lengths are 2 to 18.
	txns := []impl.Txn{txnOf(9, nil, []int64{500}), txnOf(9, nil, runOf(500, 27)), txnOf(9, nil, runOf(500, 60))}
	for n := 1; n <= 15; n++ {
		txns = append(txns, txnOf(9, runOf(100, n), nil), txnOf(9, runOf(100, n), []int64{5}))
	}
	taken := 0
	for start := int64(0); start <= 16; start++ {
		for head := int64(1); head <= 16; head++ {
			for used := int64(0); used <= 16; used++ {
				l := impl.Log{Size: 16, Start: start, Seq: 9, Head: head, Used: used}
				if !isLog(l) {
					if impl.LogNext(l, txns[0]) != (impl.Log{}) || len(impl.AppendOps(l, txns[0])) != 0 {
						t.Error("a log that is not valid takes something:", l)
					}
					continue
				}
				for _, x := range txns {
					if checkAppend(t, l, x) {
						taken++
					}
				}
			}
		}
	}
	if taken < 1000 {
		t.Error("only", taken, "were taken")
	}
}

// A transaction that has just room, and one with a block of room less.
func TestAppendJustRoom(t *testing.T) {
	t.Parallel()
	for _, size := range []int64{16, 17, 100, 137, 138, 512} {
		for _, n := range []int{1, 2, 13, 14, 17, 18, 60, 127, 128} {
			for _, x := range []impl.Txn{txnOf(9, runOf(100, n), nil), txnOf(9, runOf(100, n-1), []int64{7}), txnOf(9, nil, runOf(9, n))} {
				room := impl.TxnLength(x)
				for _, used := range []int64{size - room - 1, size - room, size - room + 1, size} {
					for _, start := range []int64{1, 2, size - 1, size} {
						if used >= 0 && used <= size {
							l := impl.Log{Size: size, Start: start, Seq: 9, Head: stepOn(start, used, size), Used: used}
							if got := checkAppend(t, l, x); got != (used <= size-room) {
								t.Errorf("%v takes %d blocks: %v", l, room, got)
							}
						}
					}
				}
				for _, head := range []int64{1, 2, size - 1, size} {
					if got := checkAppend(t, impl.Log{Size: size, Seq: 9, Head: head}, x); got != (room <= size) {
						t.Errorf("an empty log of %d takes %d blocks: %v", size, room, got)
					}
				}
			}
		}
	}
}

// The numbers of the log and of the transaction, those that are none among them.
func TestAppendSeqs(t *testing.T) {
	for _, seq := range append([]int64{7, 8}, seqEdges...) {
		for _, other := range append([]int64{7, 8}, seqEdges...) {
			x := txnOf(other, []int64{100}, []int64{5})
			got := checkAppend(t, impl.Log{Size: 16, Seq: seq, Head: 3}, x)
			checkAppend(t, impl.Log{Size: 16, Start: 3, Seq: seq, Head: 4, Used: 1}, x)
			if got != (seq == other && 1 <= seq && seq < 4294967295) {
				t.Error("a log of", seq, "takes a transaction of", other, got)
			}
		}
	}
	last := impl.Log{Size: 16, Start: 3, Seq: 4294967294, Head: 4, Used: 1}
	if got := impl.LogNext(last, txnOf(4294967294, []int64{100}, nil)); got != (impl.Log{Size: 16, Start: 3, Seq: 4294967295, Head: 7, Used: 4}) {
		t.Error("the last number that is taken:", got)
	}
}

// A log that takes everything takes nothing of a transaction that is not valid, and the other way round.
func TestAppendRefuses(t *testing.T) {
	l := impl.Log{Size: 512, Seq: 9, Head: 3}
	short := txnOf(9, []int64{100}, nil)
	short.Homes[0].Data = short.Homes[0].Data[:63]
	for _, x := range []impl.Txn{
		{}, {Seq: 9}, short, txnOf(9, []int64{2048}, nil), txnOf(9, []int64{-1}, nil), txnOf(9, []int64{5, 5}, nil), txnOf(9, []int64{5, 4}, nil),
		txnOf(9, []int64{5}, []int64{5}), txnOf(9, runOf(0, 129), nil), txnOf(9, nil, runOf(0, 129)),
	} {
		if checkAppend(t, l, x) {
			t.Error("taken, and not valid:", x)
		}
		checkAppend(t, impl.Log{Size: 512, Start: 3, Seq: 9, Head: 3}, x)
	}
	good := txnOf(9, []int64{100}, nil)
	for _, v := range []int64{math.MinInt64, -1, 0, 15, 513, math.MaxInt64} {
		for _, odd := range []impl.Log{
			{Size: v, Seq: 9, Head: 3}, {Size: 512, Start: -v, Seq: 9, Head: 3}, {Size: 16, Seq: 9, Head: v}, {Size: 16, Seq: 9, Head: 3, Used: v},
			{Size: 16, Start: 3, Seq: 9, Head: 4, Used: v}, {Size: 16, Start: v, Seq: 9, Head: v, Used: 16}, {Size: v, Start: v, Seq: 9, Head: v, Used: v},
		} {
			checkAppend(t, odd, good)
		}
	}
}

func TestAppendDrawn(t *testing.T) {
	draw := rand.New(rand.NewSource(81))
	taken := 0
	for range 600 {
		size := 16 + draw.Int63n(497)
		l := impl.Log{Size: size, Start: draw.Int63n(size + 1), Seq: 1 + draw.Int63n(4294967295), Head: 1 + draw.Int63n(size)}
		if l.Start > 0 {
			l.Used = draw.Int63n(size + 1)
			l.Head = stepOn(l.Start, l.Used, size)
		}
		checkLog(t, l)
		if checkAppend(t, l, drawnTxn(draw, l.Seq, 1+draw.Intn(128))) {
			taken++
		}
	}
	if taken < 100 || taken > 590 {
		t.Error(taken, "were taken")
	}
}
