package tests

import (
	"bytes"
	"math/rand"
	"slices"
	"testing"

	"loop.example/s01525/impl"
)

// checkStates is promise 11 of a run in which each second call is a status: what is running is never too much, what is
// used never more than there is, numbers never fall.
func checkStates(t *testing.T, size int64, calls []impl.TxnCall, r impl.TxnRun) {
	t.Helper()
	seq := int64(0)
	for i, a := range r.Answers {
		if calls[i].Kind != 9 {
			continue
		}
		s := a.State
		if s.Running < 0 || s.Running > size/4 || s.Used < 0 || s.Used > size || s.Head < 1 || s.Head > size || s.Seq < seq || s.Committed < 0 || s.Committed > s.Used {
			t.Fatal("call", i, "of a log of", size, "tells", s, "and the number ahead of it is", seq)
		}
		seq = s.Seq
	}
}

// Promise 11: whatever is called, behind each call.
func TestRoomBehindEachCall(t *testing.T) {
	t.Parallel()
	draw := rand.New(rand.NewSource(181))
	for _, size := range []int64{16, 17, 18, 19, 20, 31, 64, 200, 512} {
		for round := range 4 {
			w := callDraw{draw: draw, size: size, blocks: min(2048, size+8+draw.Int63n(size)), frees: round > 0}
			var calls []impl.TxnCall
			for _, c := range w.calls(1000) {
				calls = append(calls, c, statusCall())
			}
			d := emptyLog(size, int(w.blocks), 1+draw.Int63n(100))
			r := impl.RunTxn(d, calls, -1)
			checkStates(t, size, calls, r)
			checkRun(t, "states", d, calls, -1)
		}
	}
}

// Promise 11: of calls that are all in order none has a code, however full the log is.
func TestRoomIsAlwaysMade(t *testing.T) {
	t.Parallel()
	draw := rand.New(rand.NewSource(182))
	for _, size := range []int64{16, 17, 19, 20, 23, 40, 100, 512} {
		most := size / 4
		blocks := min(2048, 2+size+2*most)
		d := emptyLog(size, int(blocks), 3)
		for round := range 4 {
			var calls []impl.TxnCall
			for len(calls) < 2000-int(most)-3 {
				count := 1 + draw.Int63n(most)
				if round == 0 {
					count = most
				}
				calls = append(calls, beginCall(count))
				for range count {
					c := impl.TxnCall{Kind: 2, Block: 2 + size + draw.Int63n(blocks-2-size), Data: filled(byte(len(calls)))}
					if round > 1 && draw.Intn(round) > 0 {
						c = freeCall(c.Block)
					}
					calls = append(calls, c)
				}
				calls = append(calls, callKind(5+draw.Int63n(7)/6))
				if draw.Intn(3) == 0 {
					calls = append(calls, commitCall())
				}
			}
			p := checkRun(t, "in order", d, calls, -1)
			if codes := codesOf(impl.RunTxn(d, calls, -1)); len(codes) != len(calls) || slices.Max(codes) != 0 {
				t.Error("size", size, "some call has the code", slices.Max(codes))
			}
			if p.pressed == 0 {
				t.Error("size", size, "there was always room")
			}
		}
	}
}

// lengthOf is how many positions a transaction of so many homes, and no revokes, takes.
func lengthOf(homes int64) int64 {
	return homes + (homes+16)/17 + 1
}

// filling are calls that commit as much as takes so many positions (2 or more) of an empty log, but nothing beyond them.
func filling(size, positions int64) []impl.TxnCall {
	var calls []impl.TxnCall
	for positions > 0 {
		if positions == 2 {
			return append(calls, beginCall(1), freeCall(2+size), endCall(), commitCall())
		}
		homes := size / 4
		for lengthOf(homes) > positions || positions-lengthOf(homes) == 1 {
			homes--
		}
		calls = append(calls, beginCall(homes))
		for i := range homes {
			calls = append(calls, putCall(2+size+i, byte(len(calls))))
		}
		calls = append(calls, endCall(), commitCall())
		positions -= lengthOf(homes)
	}
	return calls
}

// Promise 11: a commit of all that may be running, when the log is full but for so many positions.
func TestRoomInAFullLog(t *testing.T) {
	t.Parallel()
	for _, size := range []int64{16, 17, 19, 20, 21, 40, 137, 200, 511, 512} {
		most := size / 4
		d := emptyLog(size, int(2+size+2*most), 9)
		for left := range min(size-2, 8) {
			for _, homes := range []int64{0, 1, most / 2, most - 1, most} {
				calls := append(filling(size, size-left), statusCall(), beginCall(most))
				at := len(calls) - 2
				for i := range most {
					c := putCall(2+size+2*i, 77)
					if i >= homes {
						c = freeCall(c.Block)
					}
					calls = append(calls, c)
				}
				calls = append(calls, endCall(), commitCall(), statusCall())
				r := impl.RunTxn(d, calls, -1)
				if codes := codesOf(r); len(codes) != len(calls) || slices.Max(codes) != 0 {
					t.Fatal("size", size, "left", left, "some call has the code", slices.Max(codes))
				}
				before, after := r.Answers[at].State, r.Answers[len(calls)-1].State
				need := impl.TxnLength(txnOf(7, runOf(600, int(homes)), runOf(900, int(most-homes))))
				used := before.Used + need
				if need > left {
					used = need
				}
				if before.Used != size-left || after.Used != used || after.Seq != before.Seq+1 || after.Running != 0 {
					t.Fatalf("size %d, left %d, %d homes: %v and then %v", size, left, homes, before, after)
				}
				if size <= 40 {
					checkRun(t, "full", d, calls, -1)
				}
			}
		}
	}
}

// A commit that fits just so makes no room; one that is longer by one does. Both with the log's end passed.
func TestRoomJustSo(t *testing.T) {
	for left := int64(3); left <= 6; left++ {
		for homes := int64(1); homes <= 4; homes++ {
			calls := append(filling(16, 16-left), beginCall(4))
			for i := range homes {
				calls = append(calls, putCall(30+i, byte(i)))
			}
			calls = append(calls, endCall(), commitCall())
			p := checkRunStopped(t, "just so", emptyLog(16, 40, 7), calls)
			if (p.pressed > 0) != (lengthOf(homes) > left) {
				t.Error(homes, "homes into", left, "positions: room is made", p.pressed, "times")
			}
			if p.log.Used != lengthOf(homes) && p.log.Used != 16-left+lengthOf(homes) {
				t.Error(homes, "homes into", left, "positions: used", p.log.Used)
			}
		}
	}
}

// withoutAborted are the calls without what aborted handles have changed.
func withoutAborted(calls []impl.TxnCall, r impl.TxnRun) []impl.TxnCall {
	var out, inside []impl.TxnCall
	open := false
	for i, c := range calls {
		switch {
		case r.Answers[i].Code != 0:
		case c.Kind == 1:
			open = true
			out = append(out, c)
		case c.Kind == 6:
			open, inside = false, nil
			out = append(out, c)
		case c.Kind == 5:
			open = false
			out = append(append(out, inside...), c)
			inside = nil
		case open:
			inside = append(inside, c)
		default:
			out = append(out, c)
		}
	}
	return out
}

// An aborted handle leaves nothing: without its puts and frees all operations are the same, and so is the disk.
func TestAbortedLeavesNothing(t *testing.T) {
	t.Parallel()
	draw := rand.New(rand.NewSource(183))
	aborted := 0
	for range 60 {
		w := callDraw{draw: draw, size: 16, blocks: 24, frees: true}
		d := emptyLog(16, 24, 3)
		calls := append(w.calls(400), abortCall(), commitCall())
		r := impl.RunTxn(d, calls, -1)
		fewer := withoutAborted(calls, r)
		aborted += len(calls) - len(fewer)
		for limit := int64(-1); limit <= r.Ops; limit += 1 + draw.Int63n(9) {
			a, b := impl.RunTxn(d, calls, limit), impl.RunTxn(d, fewer, limit)
			if a.Ops != b.Ops || a.Stopped != b.Stopped || !sameDisk(a.Disk, b.Disk) {
				t.Fatalf("limit %d: with aborted handles %d operations, without them %d, or another disk", limit, a.Ops, b.Ops)
			}
		}
	}
	if aborted < 500 {
		t.Error("only", aborted, "calls were left out")
	}
}

// An aborted handle by hand: its puts and frees of what was running, committed and on the disk are not seen by a get
// behind it, nor behind a commit and a recovery; with and without a commit by its begin.
func TestAbortedByHand(t *testing.T) {
	for _, count := range []int64{2, 3, 4} {
		ahead := []impl.TxnCall{
			beginCall(4), putCall(20, 1), putCall(21, 2), putCall(22, 3), freeCall(23), endCall(), commitCall(), beginCall(2), putCall(20, 4), freeCall(21), endCall(), beginCall(count),
		}
		changes := [][]impl.TxnCall{
			{putCall(20, 9), putCall(21, 9)}, {freeCall(20), freeCall(21)}, {freeCall(21), putCall(20, 9)}, {putCall(22, 9), putCall(23, 9)}, {freeCall(22), freeCall(24)},
			{putCall(24, 9), freeCall(24), putCall(20, 8)}, {freeCall(20), putCall(20, 7), freeCall(22), putCall(22, 7)}, {},
		}
		gets := []impl.TxnCall{statusCall(), getCall(20), getCall(21), getCall(22), getCall(23), getCall(24)}
		want := impl.RunTxn(emptyLog(16, 40, 7), slices.Concat(ahead, gets), -1)
		// 2 + 2 fit; 2 + 3 and 2 + 4 do not, and the begin commits.
		if s := want.Answers[len(ahead)].State; count == 2 && (s.Running != 2 || s.Seq != 8) || count > 2 && (s.Running != 0 || s.Seq != 9) {
			t.Fatal("a begin of", count, "leads to", s)
		}
		for i, change := range changes {
			calls := slices.Concat(ahead, change, []impl.TxnCall{abortCall()}, gets, []impl.TxnCall{abortCall(), commitCall(), checkpointCall()}, gets)
			r := impl.RunTxn(emptyLog(16, 40, 7), calls, -1)
			at := len(ahead) + len(change) + 1
			if value(r.Answers[at:at+6]) != value(want.Answers[len(ahead):]) {
				t.Errorf("begin of %d, changes %d: seen behind the abort", count, i)
			}
			for b, v := range []byte{4, 121, 3, 123, 124} {
				if got := r.Disk.Durable[(20+b)*64 : (21+b)*64]; !bytes.Equal(got, filled(v)) {
					t.Errorf("begin of %d, changes %d: block %d is %d behind all", count, i, 20+b, got[0])
				}
			}
			calls = slices.Concat(ahead, change, []impl.TxnCall{abortCall(), commitCall()})
			behind := impl.Recover(impl.RunTxn(emptyLog(16, 40, 7), calls, -1).Disk, -1).Disk
			for b, v := range []byte{4, 121, 3, 123, 124} {
				if got := behind.Durable[(20+b)*64 : (21+b)*64]; !bytes.Equal(got, filled(v)) {
					t.Errorf("begin of %d, changes %d: block %d is %d behind a recovery", count, i, 20+b, got[0])
				}
			}
			checkRunStopped(t, "aborted", emptyLog(16, 40, 7), calls)
		}
	}
}

// A handle that is open when the calls end, or when the disk stops, leaves nothing on the disk.
func TestOpenAtTheEnd(t *testing.T) {
	d := emptyLog(16, 40, 7)
	calls := []impl.TxnCall{beginCall(4), putCall(20, 1), putCall(21, 2)}
	r := impl.RunTxn(d, calls, -1)
	if r.Ops != 0 || r.Stopped || len(r.Answers) != 3 || !sameDisk(r.Disk, d) {
		t.Error("an open handle leaves something:", r.Ops, r.Stopped, len(r.Answers))
	}
	r = impl.RunTxn(d, append(calls, endCall()), -1)
	if r.Ops != 0 || len(r.Answers) != 4 || !sameDisk(r.Disk, d) {
		t.Error("what no commit has written is on the disk:", r.Ops, len(r.Answers))
	}
}
