package tests

import (
	"bytes"
	"math"
	"math/rand"
	"slices"
	"testing"

	"loop.example/s01525/impl"
)

func TestTxnLimit(t *testing.T) {
	for size, want := range map[int64]int64{15: 0, 16: 4, 17: 4, 18: 4, 19: 4, 20: 5, 23: 5, 24: 6, 511: 127, 512: 128, 513: 0, 516: 0,
		0: 0, 1: 0, -1: 0, -16: 0, -512: 0, 1 << 32: 0, 1<<32 + 16: 0, math.MinInt64: 0, math.MinInt64 + 16: 0, math.MaxInt64: 0} {
		if got := impl.TxnLimit(size); got != want {
			t.Errorf("TxnLimit of %d is %d, not %d", size, got, want)
		}
	}
	for size := int64(16); size <= 512; size++ {
		n := impl.TxnLimit(size)
		if n*4 > size || n*4+4 <= size {
			t.Error("a quarter of", size, "is not", n)
		}
		// A transaction of so many fits into an empty log: a multiple of 4 has the least room for it.
		if size%20 != 16 && size != 512 {
			continue
		}
		for _, homes := range []int64{0, 1, n / 2, n - 1, n} {
			x := txnOf(7, runOf(600, int(homes)), runOf(900, int(n-homes)))
			if impl.TxnLength(x) == 0 || impl.TxnLength(x) > size {
				t.Fatal("a log of", size, "does not take", homes, "homes of", n)
			}
		}
	}
}

// checkCheckpoint holds CheckpointOps against the document.
func checkCheckpoint(t *testing.T, name string, l impl.Log, homes []impl.Home) []impl.Op {
	t.Helper()
	got := impl.CheckpointOps(l, homes)
	if want := plainCheckpoint(l, homes); value(got) != value(want) {
		t.Errorf("%s: CheckpointOps of %v and %d homes: %v, not %v", name, l, len(homes), placesOf(got), placesOf(want))
	}
	return got
}

func TestCheckpointOpsByHand(t *testing.T) {
	l := impl.Log{Size: 16, Start: 15, Seq: 9, Head: 2, Used: 3}
	super := impl.Op{Kind: 1, Block: 1, Data: superKind().plain(impl.JSuper{Log: 16, Start: 2, Seq: 9})}
	want := []impl.Op{writeOp(31, 2), writeOp(30, 1), {Kind: 2}, super, {Kind: 2}}
	if got := impl.CheckpointOps(l, []impl.Home{home(31, 2), home(30, 1)}); value(got) != value(want) {
		t.Error("two homes, in their order:", placesOf(got))
	}
	for _, none := range [][]impl.Home{nil, {}} {
		if got := impl.CheckpointOps(l, none); value(got) != value([]impl.Op{super, {Kind: 2}}) {
			t.Error("no homes:", placesOf(got))
		}
	}
}

// Logs of all kinds, valid or not: the empty list, or what the document says.
func TestCheckpointOpsOfLogs(t *testing.T) {
	homes := []impl.Home{home(30, 1)}
	for _, l := range []impl.Log{
		{}, {Size: 16, Seq: 9, Head: 1}, {Size: 16, Start: 4, Seq: 9, Head: 4}, {Size: 16, Start: 4, Seq: 9, Head: 4, Used: 16}, {Size: 15, Start: 1, Seq: 9, Head: 4, Used: 3},
		{Size: 513, Start: 1, Seq: 9, Head: 4, Used: 3}, {Size: 512, Start: 1, Seq: 9, Head: 4, Used: 3}, {Size: 16, Start: 1, Seq: 0, Head: 4, Used: 3},
		{Size: 16, Start: 1, Seq: 4294967295, Head: 4, Used: 3}, {Size: 16, Start: 1, Seq: 4294967296, Head: 4, Used: 3}, {Size: 16, Start: 1, Seq: 9, Head: 5, Used: 3},
		{Size: 16, Start: 0, Seq: 9, Head: 4, Used: 3}, {Size: 16, Start: -1, Seq: 9, Head: 4, Used: 3}, {Size: 16, Start: 17, Seq: 9, Head: 4, Used: 3},
		{Size: 16, Start: 1, Seq: 9, Head: 1, Used: 17}, {Size: 16, Start: 1, Seq: 9, Head: 0, Used: 15}, {Size: 16, Start: 1, Seq: 9, Head: 17, Used: 16},
		{Size: 16, Start: 4, Seq: 9, Head: 3, Used: -1}, {Size: math.MinInt64, Start: 1, Seq: 9, Head: 4, Used: 3}, {Size: math.MaxInt64, Start: 1, Seq: 9, Head: 4, Used: 3},
		{Size: 16, Start: 1, Seq: math.MinInt64, Head: 4, Used: 3}, {Size: 16, Start: 1, Seq: 9, Head: math.MaxInt64, Used: math.MaxInt64},
	} {
		checkCheckpoint(t, "logs", l, homes)
		checkCheckpoint(t, "logs", l, nil)
		if valid := isLog(l) && l.Used > 0; valid != (len(impl.CheckpointOps(l, homes)) == 4) {
			t.Error(l, "leads to", placesOf(impl.CheckpointOps(l, homes)))
		}
	}
	draw := rand.New(rand.NewSource(151))
	for range 4000 {
		l := impl.Log{Size: 14 + draw.Int63n(6), Start: draw.Int63n(19), Seq: draw.Int63n(3), Head: draw.Int63n(19), Used: draw.Int63n(18)}
		if draw.Intn(2) == 0 && l.Size >= 16 && l.Start > 0 {
			l.Head = stepOn(l.Start, l.Used, l.Size)
		}
		checkCheckpoint(t, "drawn", l, homes)
	}
}

// Homes are taken as they are, up to 600 of them.
func TestCheckpointOpsOfHomes(t *testing.T) {
	l := impl.Log{Size: 16, Start: 3, Seq: 9, Head: 7, Used: 4}
	for name, homes := range map[string][]impl.Home{
		"other lengths":  {{Block: 30}, {Block: 31, Data: []byte{}}, {Block: 32, Data: drawn(63, 1)}, {Block: 33, Data: drawn(65, 2)}, {Block: 34, Data: drawn(1000, 3)}},
		"other blocks":   {home(-1, 1), home(0, 2), home(1, 3), home(2, 4), home(17, 5), home(2048, 6), home(math.MinInt64, 7), home(math.MaxInt64, 8)},
		"one, twice":     {home(30, 1), home(30, 2), home(30, 1)},
		"falling blocks": {home(33, 1), home(32, 2), home(31, 1)},
	} {
		if got := checkCheckpoint(t, name, l, homes); len(got) != len(homes)+3 {
			t.Error(name, "leads to", placesOf(got))
		}
	}
	for _, n := range []int{1, 2, 509, 510, 599, 600, 601, 602, 2000} {
		var homes []impl.Home
		for i := range n {
			homes = append(homes, home(int64(i%40), byte(i)))
		}
		got := checkCheckpoint(t, "many", l, homes)
		if n <= 600 && len(got) != n+3 || n > 600 && len(got) != 0 {
			t.Error(n, "homes lead to", len(got), "operations")
		}
		if n <= 600 && len(impl.DiskDo(impl.NewDisk(40), got, -1).Durable) == 0 {
			t.Error("a disk refuses the operations of", n, "homes")
		}
	}
}

// emptyLog is a numbered disk with a log in which nothing counts.
func emptyLog(size int64, blocks int, seq int64) impl.Disk {
	return diskWith(blocks, impl.JSuper{Log: size, Seq: seq})
}

// The example of 6.3, operation by operation.
func TestRunTxnOfTheDocument(t *testing.T) {
	d := emptyLog(16, 40, 7)
	calls := []impl.TxnCall{beginCall(2), putCall(30, 1), putCall(31, 2), endCall(), commitCall(), statusCall(), checkpointCall(), statusCall()}
	super := func(start, seq int64) impl.Op {
		return impl.Op{Kind: 1, Block: 1, Data: superKind().plain(impl.JSuper{Log: 16, Start: start, Seq: seq})}
	}
	b := plainTxn(impl.Txn{Seq: 7, Homes: []impl.Home{home(30, 1), home(31, 2)}})
	block := func(i int64) impl.Op { return impl.Op{Kind: 1, Block: 2 + i, Data: b[i*64 : i*64+64]} }
	ops := []impl.Op{super(1, 7), {Kind: 2}, block(0), block(1), block(2), block(3), {Kind: 2}, writeOp(30, 1), writeOp(31, 2), {Kind: 2}, super(5, 8), {Kind: 2}}
	for limit := range int64(len(ops) + 1) {
		r := impl.RunTxn(d, calls, limit)
		answers := 4
		if limit >= 7 {
			answers = 6
		}
		if limit >= 12 {
			answers = 8
		}
		if r.Code != 0 || r.Ops != limit || r.Stopped != (limit < 12) || len(r.Answers) != answers || !sameDisk(r.Disk, oneByOne(d, ops[:limit])) {
			t.Errorf("limit %d: code %d, %d operations, stopped %v, %d answers, or another disk", limit, r.Code, r.Ops, r.Stopped, len(r.Answers))
		}
	}
	r := impl.RunTxn(d, calls, -1)
	if r.Ops != 12 || r.Answers[5].State != (impl.TxnState{Seq: 8, Head: 5, Used: 4, Committed: 2}) || r.Answers[7].State != (impl.TxnState{Seq: 8, Head: 5}) {
		t.Error(r.Ops, "operations,", r.Answers[5].State, r.Answers[7].State)
	}
}

// codesOf are the codes of a run's answers.
func codesOf(r impl.TxnRun) []int64 {
	var out []int64
	for _, a := range r.Answers {
		out = append(out, a.Code)
	}
	return out
}

// coded is a call and the code that it has to answer.
type coded struct {
	call impl.TxnCall
	code int64
}

// checkCodes holds the codes of calls on an empty log of 16, on a disk of 40 blocks (home blocks 18 to 39), against
// those told by hand, and all the answers against the document.
func checkCodes(t *testing.T, name string, list []coded) impl.TxnRun {
	t.Helper()
	var calls []impl.TxnCall
	var want []int64
	for _, c := range list {
		calls, want = append(calls, c.call), append(want, c.code)
	}
	d := emptyLog(16, 40, 7)
	r := impl.RunTxn(d, calls, -1)
	if r.Code != 0 || !slices.Equal(codesOf(r), want) {
		t.Errorf("%s: code %d, answers %v, not %v", name, r.Code, codesOf(r), want)
	}
	checkRunStopped(t, name, d, calls)
	return r
}

// Counts of a begin, and begins within a handle: that one is named first.
func TestTxnBegin(t *testing.T) {
	var list []coded
	for _, c := range []coded{
		{beginCall(1), 0}, {beginCall(2), 0}, {beginCall(4), 0}, {beginCall(0), 21}, {beginCall(5), 21}, {beginCall(-1), 21}, {beginCall(6), 21}, {beginCall(1 << 32), 21},
		{beginCall(1<<32 + 1), 21}, {beginCall(math.MinInt64), 21}, {beginCall(math.MinInt64 + 1), 21}, {beginCall(math.MaxInt64), 21}, {beginCall(math.MaxInt64 - 3), 21},
	} {
		list = append(list, c)
		if c.code != 0 {
			list = append(list, coded{endCall(), 22})
			continue
		}
		for _, n := range []int64{0, 1, 4, 5, math.MinInt64, math.MaxInt64} {
			list = append(list, coded{beginCall(n), 20})
		}
		list = append(list, coded{endCall(), 0})
	}
	if r := checkCodes(t, "begins", list); r.Ops != 0 {
		t.Error("begins of nothing do", r.Ops, "operations")
	}
}

// A begin commits if, and only if, what is running and what may come are too many together.
func TestTxnBeginJustSo(t *testing.T) {
	for _, size := range []int64{16, 19, 20, 40, 512} {
		most := size / 4
		d := emptyLog(size, int(2+size+most+5), 7)
		for running := range most + 1 {
			for _, count := range []int64{1, most - running, most - running + 1, most} {
				if count < 1 || count > most {
					continue
				}
				calls := []impl.TxnCall{beginCall(most)}
				for i := range running {
					c := putCall(2+size+i, byte(i))
					if i%3 == 1 {
						c = freeCall(c.Block)
					}
					calls = append(calls, c)
				}
				calls = append(calls, endCall(), statusCall(), beginCall(count), statusCall())
				r := impl.RunTxn(d, calls, -1)
				before, after := r.Answers[len(calls)-3].State, r.Answers[len(calls)-1].State
				if before != (impl.TxnState{Seq: 7, Head: 1, Running: running}) {
					t.Fatal("running", running, "is told as", before)
				}
				if commits := running+count > most; commits && (after.Running != 0 || after.Seq != 8 || r.Ops == 0) || !commits && (after != before || r.Ops != 0) {
					t.Errorf("size %d, %d running, a begin of %d: %v, %d operations", size, running, count, after, r.Ops)
				}
				if size <= 20 {
					checkRun(t, "just so", d, calls, -1)
				}
			}
		}
	}
}

// Blocks and data that a put, a free or a get takes, and what is named first.
func TestTxnBlocksAndData(t *testing.T) {
	data := func(block int64, n int) impl.TxnCall {
		return impl.TxnCall{Kind: 2, Block: block, Data: drawn(n, block)}
	}
	var list []coded
	blocks := map[int64]int64{18: 0, 39: 0, 17: 23, 40: 23, 0: 23, 1: 23, 2: 23, -1: 23, 2047: 23, 2048: 23, 1<<32 + 18: 23, math.MinInt64: 23, math.MaxInt64: 23}
	for b := range blocks {
		list = append(list, coded{data(b, 64), 22}, coded{data(b, 63), 22}, coded{freeCall(b), 22}, coded{getCall(b), blocks[b]})
	}
	for b, code := range blocks {
		list = append(list, coded{beginCall(1), 0})
		for _, n := range []int{0, 1, 63, 65, 128} {
			list = append(list, coded{data(b, n), 23})
		}
		list = append(list, coded{impl.TxnCall{Kind: 2, Block: b}, 23}, coded{data(b, 64), code}, coded{getCall(b), code}, coded{freeCall(b), code}, coded{getCall(b), code}, coded{endCall(), 0})
	}
	checkCodes(t, "blocks", list)
	// Of one that has no credit left: the block and the data are looked at first.
	checkCodes(t, "spent", []coded{
		{beginCall(1), 0}, {putCall(20, 1), 0}, {data(17, 64), 23}, {data(21, 63), 23}, {freeCall(40), 23}, {data(21, 64), 24}, {freeCall(21), 24}, {data(20, 63), 23},
		{data(20, 64), 0}, {endCall(), 0}, {data(21, 64), 22}, {freeCall(21), 22},
	})
}

// A disk without a home block, and one with a single one.
func TestTxnWithoutHomes(t *testing.T) {
	calls := []impl.TxnCall{beginCall(4), putCall(17, 1), putCall(18, 1), putCall(19, 1), freeCall(18), freeCall(17), getCall(18), getCall(17), endCall(), commitCall(), statusCall()}
	r := impl.RunTxn(emptyLog(16, 18, 7), calls, -1)
	if !slices.Equal(codesOf(r), []int64{0, 23, 23, 23, 23, 23, 23, 23, 0, 0, 0}) || r.Ops != 0 {
		t.Error("no home block:", codesOf(r), r.Ops)
	}
	r = impl.RunTxn(emptyLog(16, 19, 7), calls, -1)
	if !slices.Equal(codesOf(r), []int64{0, 23, 0, 23, 0, 23, 0, 23, 0, 0, 0}) || r.Ops != 5 {
		t.Error("one home block:", codesOf(r), r.Ops)
	}
	checkRunStopped(t, "one home block", emptyLog(16, 19, 7), calls)
}

// Credits are taken by different blocks, not by changes.
func TestTxnCredits(t *testing.T) {
	r := checkCodes(t, "credits", []coded{
		{beginCall(2), 0}, {putCall(30, 1), 0}, {putCall(30, 2), 0}, {freeCall(30), 0}, {putCall(30, 3), 0}, {putCall(31, 1), 0}, {putCall(32, 1), 24}, {freeCall(32), 24},
		{putCall(31, 2), 0}, {freeCall(31), 0}, {freeCall(31), 0}, {putCall(30, 4), 0}, {freeCall(33), 24}, {getCall(32), 0}, {getCall(30), 0}, {statusCall(), 0}, {endCall(), 0},
		// What another handle has changed takes a credit of this one, though the running transaction has it.
		{beginCall(1), 0}, {freeCall(30), 0}, {putCall(31, 5), 24}, {putCall(30, 6), 0}, {endCall(), 0}, {statusCall(), 0},
		{beginCall(1), 0}, {freeCall(31), 0}, {putCall(30, 5), 24}, {abortCall(), 0},
		{beginCall(1), 0}, {putCall(31, 9), 0}, {freeCall(30), 24}, {endCall(), 0}, {statusCall(), 0},
	})
	if r.Answers[14].Data[0] != 4 || r.Answers[13].Data[0] != 132 {
		t.Error("a call that is refused has changed something")
	}
	for _, i := range []int{15, 22, 31} {
		if r.Answers[i].State != (impl.TxnState{Seq: 7, Head: 1, Running: 2}) {
			t.Error("call", i, "tells", r.Answers[i].State)
		}
	}
}

// All credits that can be given, spent by puts, by frees, and by both; one more is refused.
func TestTxnAllCredits(t *testing.T) {
	for _, size := range []int64{16, 100, 512} {
		most := size / 4
		d := emptyLog(size, int(2+size+most+1), 7)
		for kind := range int64(3) {
			calls := []impl.TxnCall{beginCall(most)}
			for i := range most + 1 {
				c := putCall(2+size+i, byte(i))
				if kind == 1 || kind == 2 && i%2 == 0 {
					c = impl.TxnCall{Kind: 3, Block: c.Block}
				}
				calls = append(calls, c)
			}
			calls = append(calls, statusCall(), endCall(), commitCall(), statusCall())
			p := checkRun(t, "all credits", d, calls, -1)
			if codes := codesOf(impl.RunTxn(d, calls, -1)); slices.Max(codes[:most+1]) != 0 || codes[most+1] != 24 || slices.Max(codes[most+2:]) != 0 {
				t.Error("size", size, "codes", codes)
			}
			if got := p.answers[most+2].State.Running; got != most {
				t.Error("size", size, "running", got)
			}
		}
	}
}

// Ends and aborts without a handle, commits and checkpoints within one, and kinds that are none.
func TestTxnCallsInOrder(t *testing.T) {
	r := checkCodes(t, "order", []coded{
		{endCall(), 22}, {abortCall(), 22}, {commitCall(), 0}, {checkpointCall(), 0}, {statusCall(), 0}, {beginCall(2), 0}, {commitCall(), 20}, {checkpointCall(), 20}, {statusCall(), 0},
		{putCall(20, 1), 0}, {commitCall(), 20}, {checkpointCall(), 20}, {beginCall(1), 20}, {statusCall(), 0}, {endCall(), 0}, {endCall(), 22}, {abortCall(), 22}, {commitCall(), 0},
		{statusCall(), 0}, {commitCall(), 0}, {statusCall(), 0}, {beginCall(1), 0}, {abortCall(), 0}, {abortCall(), 22}, {endCall(), 22}, {checkpointCall(), 0}, {checkpointCall(), 0}, {statusCall(), 0},
	})
	if r.Ops != 6+4 {
		t.Error("a commit and a checkpoint of one home:", r.Ops, "operations")
	}
	for i, want := range map[int]impl.TxnState{
		4: {Seq: 7, Head: 1}, 8: {Seq: 7, Head: 1}, 13: {Seq: 7, Head: 1, Running: 1}, 18: {Seq: 8, Head: 4, Used: 3, Committed: 1}, 20: {Seq: 8, Head: 4, Used: 3, Committed: 1}, 27: {Seq: 8, Head: 4},
	} {
		if r.Answers[i].State != want {
			t.Error("call", i, "tells", r.Answers[i].State, "not", want)
		}
	}
	var list []coded
	for _, kind := range []int64{0, 10, 11, -1, -9, 1<<32 + 9, 1<<32 + 1, 256 + 9, math.MinInt64, math.MinInt64 + 9, math.MaxInt64} {
		list = append(list, coded{impl.TxnCall{Kind: kind, Block: 20, Count: 1, Data: filled(1)}, 44})
	}
	list = append(list, coded{beginCall(1), 0})
	list = append(list, list[:len(list)-1]...)
	list = append(list, coded{statusCall(), 0}, coded{putCall(20, 1), 0})
	checkCodes(t, "kinds", list)
}

// What a call does not use plays no part, and what an answer does not use is zero.
func TestTxnFieldsNotUsed(t *testing.T) {
	plain := []impl.TxnCall{
		getCall(20), statusCall(), beginCall(2), putCall(20, 1), freeCall(21), freeCall(22), getCall(20), getCall(17), statusCall(), endCall(), commitCall(), checkpointCall(),
		beginCall(1), putCall(30, 1), abortCall(), statusCall(), getCall(30), callKind(0), endCall(), abortCall(), putCall(20, 1), beginCall(9),
	}
	d := emptyLog(16, 40, 7)
	want := impl.RunTxn(d, plain, -1)
	checkRunStopped(t, "plain", d, plain)
	for seed := range int64(6) {
		draw := rand.New(rand.NewSource(seed))
		odd := []int64{draw.Int63(), -1, math.MinInt64, math.MaxInt64, 1, 20}
		calls := slices.Clone(plain)
		for i := range calls {
			c := &calls[i]
			if c.Kind != 2 {
				c.Data = drawn([]int{64, 1, 65, 0, 1000, 64}[seed], seed)
			}
			if c.Kind != 1 {
				c.Count = odd[seed]
			}
			if c.Kind < 2 || c.Kind > 4 {
				c.Block = odd[seed]
			}
		}
		if got := impl.RunTxn(d, calls, -1); value(got) != value(want) {
			t.Error("seed", seed, "a field that is not used plays a part:", codesOf(got), "not", codesOf(want))
		}
	}
	for i, a := range want.Answers {
		k := plain[i].Kind
		if (len(a.Data) != 0) != (k == 4 && a.Code == 0) || (a.State != impl.TxnState{}) != (k == 9) {
			t.Error("call", i, "answers", a)
		}
	}
}

// A block as it is now: running, committed, on the disk; freed, with and without a committed copy.
func TestTxnGet(t *testing.T) {
	calls := []impl.TxnCall{
		getCall(30), beginCall(3), getCall(30), putCall(30, 1), getCall(30), putCall(31, 2), endCall(), getCall(30),
		commitCall(), getCall(30), beginCall(4), getCall(31), putCall(30, 3), getCall(30), freeCall(31), getCall(31), freeCall(32), getCall(32), endCall(), getCall(31), getCall(30),
		commitCall(), getCall(31), getCall(30), checkpointCall(), getCall(31), getCall(30),
		beginCall(4), freeCall(30), getCall(30), putCall(30, 5), getCall(30), freeCall(30), getCall(30), putCall(31, 6), freeCall(31), getCall(31), putCall(31, 7), getCall(31), endCall(), getCall(30), getCall(31),
	}
	want := map[int]byte{
		0: 130, 2: 130, 4: 1, 7: 1, 9: 1, 11: 2, 13: 3, 15: 2, 17: 132, 19: 2, 20: 3,
		// Behind the commit the revoked copy counts no more: the disk's block, which it never reached.
		22: 131, 23: 3, 25: 131, 26: 3, 29: 3, 31: 5, 33: 3, 36: 131, 38: 7, 40: 3, 41: 7,
	}
	r := impl.RunTxn(emptyLog(16, 40, 7), calls, -1)
	for i, c := range calls {
		if c.Kind == 4 && !bytes.Equal(r.Answers[i].Data, filled(want[i])) {
			t.Errorf("call %d gets %v of block %d, not %d", i, r.Answers[i].Data[:1], c.Block, want[i])
		}
	}
	checkRunStopped(t, "gets", emptyLog(16, 40, 7), calls)
}

// A checkpoint with something running: that stays running, and reaches the log by the next commit.
func TestTxnCheckpointWithRunning(t *testing.T) {
	calls := []impl.TxnCall{
		beginCall(2), putCall(30, 1), putCall(31, 2), endCall(), checkpointCall(), statusCall(), commitCall(), beginCall(2), putCall(30, 3), freeCall(31), endCall(),
		checkpointCall(), statusCall(), getCall(30), getCall(31), commitCall(), statusCall(), checkpointCall(), statusCall(),
	}
	r := impl.RunTxn(emptyLog(16, 40, 7), calls, -1)
	for i, want := range map[int]impl.TxnState{
		5: {Seq: 7, Head: 1, Running: 2}, 12: {Seq: 8, Head: 5, Running: 2}, 16: {Seq: 9, Head: 9, Used: 4, Committed: 1}, 18: {Seq: 9, Head: 9},
	} {
		if r.Answers[i].State != want {
			t.Error("call", i, "tells", r.Answers[i].State, "not", want)
		}
	}
	// Nothing at the first checkpoint; 2 + 5; 2 and a flush and 2; revoke, descriptor, copy, commit, flush; 1 and a flush and 2.
	if r.Ops != 7+5+5+4 || r.Answers[13].Data[0] != 3 || r.Answers[14].Data[0] != 2 || r.Disk.Durable[30*64] != 3 || r.Disk.Durable[31*64] != 2 {
		t.Error(r.Ops, "operations", r.Answers[13].Data[0], r.Answers[14].Data[0], r.Disk.Durable[30*64], r.Disk.Durable[31*64])
	}
	checkRunStopped(t, "checkpoints", emptyLog(16, 40, 7), calls)
}

// A committed home that a later commit revokes is no committed home any more, and is not written home.
func TestTxnRevokedIsNotWrittenHome(t *testing.T) {
	calls := []impl.TxnCall{beginCall(3), putCall(30, 1), putCall(31, 2), putCall(32, 3), endCall(), commitCall(), beginCall(3), freeCall(30), freeCall(31), freeCall(32), endCall(), commitCall(), statusCall(), checkpointCall(), statusCall()}
	r := impl.RunTxn(emptyLog(16, 40, 7), calls, -1)
	if r.Answers[12].State != (impl.TxnState{Seq: 9, Head: 8, Used: 7}) || r.Answers[14].State != (impl.TxnState{Seq: 9, Head: 8}) {
		t.Error(r.Answers[12].State, r.Answers[14].State)
	}
	// 2 + 6, 3, and the superblock and a flush: no flush of nothing ahead of them.
	if r.Ops != 8+3+2 || r.Disk.Durable[30*64] != 130 {
		t.Error(r.Ops, "operations,", r.Disk.Durable[30*64])
	}
	checkRunStopped(t, "revoked", emptyLog(16, 40, 7), calls)
}
