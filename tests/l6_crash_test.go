package tests

import (
	"bytes"
	"math/rand"
	"slices"
	"testing"

	"loop.example/s01525/impl"
)

// crashed counts what came of runs that were stopped: how often the commit under way was there behind the crash, and
// how often it was not; and what the runs were like.
type crashed struct {
	there, gone, pressed, opened, rounds int
}

// around are the last commit that was completed when so many operations were done, and the one that was under way.
// A recovery that is under way comes to the same end as one that is completed.
func (p *plainHandles) around(done int) (last plainMark, way *plainMark) {
	last = p.marks[0]
	for i, m := range p.marks[1:] {
		if m.end <= done {
			last = m
		} else if m.from < done {
			way = &p.marks[1+i]
		}
	}
	return last, way
}

// standsWhole tells whether each position of the commit's transaction has its block's bytes.
func (m *plainMark) standsWhole(d impl.Disk) bool {
	b := plainTxn(m.txn)
	for i := range int64(len(b) / 64) {
		at := (1 + stepOn(m.log.Head, i, m.log.Size)) * 64
		if !bytes.Equal(d.Durable[at:at+64], b[i*64:i*64+64]) {
			return false
		}
	}
	return true
}

// had tells whether the block has had these bytes: on the disk behind the recovery, or by a commit up to this number.
func (p *plainHandles) had(block int64, data []byte, seq int64) bool {
	at := (block - 2 - p.size) * 64
	if bytes.Equal(data, p.marks[0].seen[at:at+64]) {
		return true
	}
	for _, m := range p.marks[1:] {
		for _, h := range m.txn.Homes {
			if m.txn.Seq <= seq && h.Block == block && bytes.Equal(h.Data, data) {
				return true
			}
		}
	}
	return false
}

// checkCrash is promises 7 and 10 of a run that was stopped behind so many operations, and then crashed.
func (p *plainHandles) checkCrash(t *testing.T, d impl.Disk, done int, n *crashed) {
	t.Helper()
	want, way := p.around(done)
	if way != nil && done >= way.appended {
		found := slices.Clone(way.since)
		if way.standsWhole(d) {
			n.there++
			want = *way
			found = append(found, way.txn)
		} else {
			n.gone++
		}
		if got := impl.ScanLog(d); got.Code != 0 || value(got.Txns) != value(found) {
			t.Fatalf("stopped behind %d: code %d, %d transactions found, not %d", done, got.Code, len(got.Txns), len(found))
		}
	}
	r := impl.Recover(d, -1)
	if r.Code != 0 || r.Stopped || len(r.Disk.Pending) != 0 {
		t.Fatalf("stopped behind %d: a recovery has code %d, stopped %v", done, r.Code, r.Stopped)
	}
	homes := r.Disk.Durable[(2+p.size)*64:]
	for b := 2 + p.size; b < p.blocks; b++ {
		at := (b - 2 - p.size) * 64
		got := homes[at : at+64]
		if want.loose[b] && !p.had(b, got, want.txn.Seq) || !want.loose[b] && !bytes.Equal(got, want.seen[at:at+64]) {
			t.Fatalf("stopped behind %d: block %d is %v.., not %v.. as behind commit %d", done, b, got[:8], want.seen[at:at+8], want.txn.Seq)
		}
	}
}

// crashEverywhere stops a run at each of its operations, and crashes with some choices of kept writes.
func crashEverywhere(t *testing.T, draw *rand.Rand, d impl.Disk, calls []impl.TxnCall, n *crashed) *plainHandles {
	t.Helper()
	p, code := plainHandlesOf(d, calls)
	if code != 0 {
		t.Fatal("code", code)
	}
	for done := range len(p.ops) + 1 {
		r := impl.RunTxn(d, calls, int64(done))
		if r.Ops != int64(done) || r.Stopped != (done < len(p.ops)) {
			t.Fatal("limit", done, "does", r.Ops, "operations, stopped", r.Stopped)
		}
		for _, keep := range fewKeeps(draw, len(r.Disk.Pending)) {
			p.checkCrash(t, impl.DiskCrash(r.Disk, keep), done, n)
		}
	}
	n.pressed, n.opened, n.rounds = n.pressed+p.pressed, n.opened+p.opened, n.rounds+p.rounds
	return p
}

// fewKeeps are some choices of kept writes: all, none, all but one, one alone, drawn ones.
func fewKeeps(draw *rand.Rand, n int) [][]int64 {
	if n <= 2 {
		return someKeeps(draw, n)
	}
	full := slices.Repeat([]int64{1}, n)
	keeps := [][]int64{nil, full}
	for _, i := range []int{0, n - 1, draw.Intn(n)} {
		most, least := slices.Clone(full), make([]int64, n)
		most[i], least[i] = 0, 1
		keeps = append(keeps, most, least)
	}
	some := make([]int64, n)
	for i := range some {
		some[i] = draw.Int63n(2)
	}
	return append(keeps, some)
}

// Promise 10: runs of many calls, with and without frees, on logs of the least size and of others.
func TestCrashAtEachOperation(t *testing.T) {
	t.Parallel()
	draw := rand.New(rand.NewSource(171))
	for _, s := range []struct {
		size, blocks int64
		frees        bool
		calls, many  int
	}{{16, 23, true, 700, 4}, {16, 23, false, 700, 3}, {16, 60, true, 600, 2}, {17, 30, true, 500, 2}, {24, 36, true, 500, 2}, {64, 100, true, 600, 1}} {
		var n crashed
		for range s.many {
			w := callDraw{draw: draw, size: s.size, blocks: s.blocks, frees: s.frees}
			crashEverywhere(t, draw, emptyLog(s.size, int(s.blocks), 1+draw.Int63n(1000)), w.calls(s.calls), &n)
		}
		if n.there < 20*s.many || n.gone < 200*s.many {
			t.Error("a log of", s.size, "had", n.there, "commits under way, and did not have", n.gone)
		}
		if s.size == 16 && (n.pressed < 3*s.many || n.opened < 3*s.many || n.rounds < 3*s.many) {
			t.Error("a log of", s.size, "was pressed", n.pressed, "times, committed by begins", n.opened, "times, went round", n.rounds, "times")
		}
	}
}

// Promise 10: a run that does nothing but commit what a handle may have at most, so that each commit needs a checkpoint.
func TestCrashUnderPressure(t *testing.T) {
	draw := rand.New(rand.NewSource(172))
	for _, homes := range []int64{4, 3, 2, 0} {
		var n crashed
		var calls []impl.TxnCall
		for i := range int64(12) {
			calls = append(calls, beginCall(4))
			for j := range int64(4) {
				b := 18 + (i*3+j)%7
				if j < homes {
					calls = append(calls, putCall(b, byte(10*i+j+1)))
				} else {
					calls = append(calls, freeCall(b))
				}
			}
			calls = append(calls, endCall())
		}
		p := crashEverywhere(t, draw, emptyLog(16, 25, 9), append(calls, commitCall()), &n)
		if n.pressed < len(p.marks)/9 || n.rounds == 0 || len(p.marks) != 13 {
			t.Error(homes, "homes:", n.pressed, "times pressed,", n.rounds, "rounds,", len(p.marks), "marks")
		}
	}
}

// Promise 10: all choices of kept writes, of short runs whose commits are the first one, a later one, and one behind a checkpoint.
func TestCrashWithEachChoice(t *testing.T) {
	for name, calls := range map[string][]impl.TxnCall{
		"the first":    {beginCall(2), putCall(20, 1), putCall(21, 2), endCall(), commitCall()},
		"a second":     {beginCall(2), putCall(20, 1), putCall(21, 2), endCall(), commitCall(), beginCall(3), putCall(20, 3), freeCall(21), putCall(22, 4), endCall(), commitCall()},
		"a checkpoint": {beginCall(2), putCall(20, 1), putCall(21, 2), endCall(), commitCall(), checkpointCall(), beginCall(2), putCall(20, 3), freeCall(21), endCall(), commitCall(), checkpointCall()},
		"the same again": {beginCall(1), putCall(20, 1), endCall(), commitCall(), checkpointCall(), beginCall(1), putCall(20, 1), endCall(), commitCall(), checkpointCall(),
			beginCall(1), putCall(20, 1), endCall(), commitCall(), beginCall(1), putCall(20, 1), endCall(), commitCall()},
	} {
		for _, seq := range []int64{1, 255, 4294767295} {
			d := emptyLog(16, 24, seq)
			p, _ := plainHandlesOf(d, calls)
			var n crashed
			for done := range len(p.ops) + 1 {
				r := impl.RunTxn(d, calls, int64(done))
				eachChoice(len(r.Disk.Pending), 2, func(keep []int64) {
					p.checkCrash(t, impl.DiskCrash(r.Disk, keep), done, &n)
				})
			}
			if n.there == 0 || n.gone == 0 {
				t.Error(name, "had", n.there, "commits under way, and did not have", n.gone)
			}
		}
	}
}

// Promise 10: runs in a row, each on the disk that the one before has left, stopped anywhere (in its recovery too) and crashed.
func TestCrashRunsInARow(t *testing.T) {
	draw := rand.New(rand.NewSource(173))
	var n crashed
	inRecovery := 0
	for _, s := range []struct{ size, blocks int64 }{{16, 22}, {16, 50}, {21, 33}} {
		d := emptyLog(s.size, int(s.blocks), 1)
		last := int64(0)
		for round := range 14 {
			w := callDraw{draw: draw, size: s.size, blocks: s.blocks, frees: round%3 > 0}
			calls := w.calls(60)
			p := crashEverywhere(t, draw, d, calls, &n)
			for _, m := range p.marks[1:] {
				if m.txn.Seq <= last {
					t.Fatal("the number", m.txn.Seq, "was given away already")
				}
			}
			done := draw.Intn(len(p.ops) + 1)
			if round%4 == 3 {
				done = draw.Intn(p.marks[0].end + 1)
				inRecovery++
			}
			// A number is given away with the first block that may reach the log.
			for _, m := range p.marks[1:] {
				if done > m.appended && m.log.Start > 0 || done > m.appended+2 {
					last = max(last, m.txn.Seq)
				}
			}
			keeps := fewKeeps(draw, len(impl.RunTxn(d, calls, int64(done)).Disk.Pending))
			d = impl.DiskCrash(impl.RunTxn(d, calls, int64(done)).Disk, keeps[draw.Intn(len(keeps))])
		}
	}
	if n.there < 100 || n.gone < 1000 || n.opened < 20 || inRecovery < 6 {
		t.Error(n, inRecovery)
	}
}

// Promise 10, told by TxnGet itself: behind each commit all home blocks are got, and these are what a crash leads to.
func TestCrashLeavesWhatGetsTold(t *testing.T) {
	t.Parallel()
	draw := rand.New(rand.NewSource(174))
	commits := 0
	for range 8 {
		w := callDraw{draw: draw, size: 16, blocks: 23}
		d := emptyLog(16, 23, 5)
		told := []string{gotHomes(d, nil)}
		var calls []impl.TxnCall
		seq := int64(5)
		for _, c := range w.calls(200) {
			calls = append(calls, c)
			r := impl.RunTxn(d, append(slices.Clip(calls), statusCall()), -1)
			if now := r.Answers[len(calls)].State.Seq; now > seq {
				seq = now
				// One that changes nothing to be seen cannot be told from the one ahead of it.
				if got := gotHomes(d, calls); got != told[len(told)-1] {
					told = append(told, got)
				}
				commits++
			}
		}
		whole := impl.RunTxn(d, calls, -1)
		at := 0
		for limit := range whole.Ops + 1 {
			r := impl.RunTxn(d, calls, limit)
			for _, keep := range fewKeeps(draw, len(r.Disk.Pending)) {
				behind := impl.Recover(impl.DiskCrash(r.Disk, keep), -1).Disk
				now := slices.Index(told[at:], string(behind.Durable[18*64:]))
				if now < 0 || now > 1 {
					t.Fatalf("limit %d: the home blocks are not those behind commit %d or the next", limit, at)
				}
			}
			// With no write lost, and nothing under way, it is the last commit that was completed.
			if len(r.Disk.Pending) == 0 {
				at += slices.Index(told[at:], string(impl.Recover(r.Disk, -1).Disk.Durable[18*64:]))
			}
		}
		if at != len(told)-1 {
			t.Error("of", len(told)-1, "commits", at, "were come to")
		}
	}
	if commits < 60 {
		t.Error("only", commits, "commits")
	}
}

// gotHomes are the home blocks 18 to 22 as gets tell them behind the calls.
func gotHomes(d impl.Disk, calls []impl.TxnCall) string {
	calls = slices.Clip(calls)
	for b := int64(18); b < 23; b++ {
		calls = append(calls, getCall(b))
	}
	var out []byte
	r := impl.RunTxn(d, calls, -1)
	for _, a := range r.Answers[len(calls)-5:] {
		out = append(out, a.Data...)
	}
	return string(out)
}
