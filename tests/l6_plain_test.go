package tests

import (
	"bytes"
	"maps"
	"math/rand"
	"slices"
	"testing"

	"loop.example/s01525/impl"
)

func callKind(kind int64) impl.TxnCall   { return impl.TxnCall{Kind: kind} }
func beginCall(count int64) impl.TxnCall { return impl.TxnCall{Kind: 1, Count: count} }
func freeCall(block int64) impl.TxnCall  { return impl.TxnCall{Kind: 3, Block: block} }
func getCall(block int64) impl.TxnCall   { return impl.TxnCall{Kind: 4, Block: block} }
func endCall() impl.TxnCall              { return callKind(5) }
func abortCall() impl.TxnCall            { return callKind(6) }
func commitCall() impl.TxnCall           { return callKind(7) }
func checkpointCall() impl.TxnCall       { return callKind(8) }
func statusCall() impl.TxnCall           { return callKind(9) }

func putCall(block int64, b byte) impl.TxnCall {
	return impl.TxnCall{Kind: 2, Block: block, Data: filled(b)}
}

// plainHandles is chapter 6 once more, all of whose operations are done: maps, and what became of each operation.
type plainHandles struct {
	size, blocks int64
	image        []byte
	log          impl.Log
	homes        map[int64][]byte
	revokes      map[int64]bool
	committed    map[int64][]byte
	handle       *plainHandle
	ops          []impl.Op
	answers      []impl.TxnAnswer
	// behind is how many operations were done when each answer was told.
	behind []int
	marks  []plainMark
	// since are the transactions in the log, loose the blocks that a commit has revoked and none has put again.
	since []impl.Txn
	loose map[int64]bool
	// pressed is how many commits had to make room, opened how many a begin has made, rounds how often the log's end was passed.
	pressed, opened, rounds int
}

// plainHandle has the blocks that it has changed, and what was running when it was opened.
type plainHandle struct {
	credits int64
	blocks  map[int64]bool
	homes   map[int64][]byte
	revokes map[int64]bool
}

// plainMark is a commit: the number of operations ahead of it, ahead of its AppendOps, and behind it; the log and the
// transactions ahead of its AppendOps; and what all home blocks are behind it.
type plainMark struct {
	from, appended, end int
	log                 impl.Log
	since               []impl.Txn
	txn                 impl.Txn
	seen                []byte
	loose               map[int64]bool
}

// plainHandlesOf carries out all the calls; or it tells the code of the run.
func plainHandlesOf(d impl.Disk, calls []impl.TxnCall) (*plainHandles, int64) {
	if len(calls) > 2000 {
		return nil, 44
	}
	f := plainFound(d)
	if f.Code != 0 {
		return nil, f.Code
	}
	p := &plainHandles{
		size: f.Super.Log, blocks: int64(len(d.Durable) / 64), image: bytes.Clone(d.Durable),
		homes: map[int64][]byte{}, revokes: map[int64]bool{}, committed: map[int64][]byte{}, loose: map[int64]bool{},
	}
	p.do(plainRecoverOps(f))
	super := superKind().parse(p.image[64:128]).(impl.JSuper)
	p.log = impl.Log{Size: super.Log, Seq: super.Seq, Head: 1}
	// Behind the recovery all is as if a commit of nothing had been completed.
	p.marks = []plainMark{{end: len(p.ops), seen: p.seen(), loose: map[int64]bool{}}}
	for _, c := range calls {
		p.answers = append(p.answers, p.answer(c))
		p.behind = append(p.behind, len(p.ops))
	}
	return p, 0
}

func (p *plainHandles) do(ops []impl.Op) {
	p.ops = append(p.ops, ops...)
	for _, op := range ops {
		if op.Kind == 1 {
			copy(p.image[op.Block*64:op.Block*64+64], op.Data)
		}
	}
}

func (p *plainHandles) now(block int64) []byte {
	if data, ok := p.homes[block]; ok {
		return data
	}
	if data, ok := p.committed[block]; ok {
		return data
	}
	return p.image[block*64 : block*64+64]
}

// seen are all home blocks as they are now, one behind the other.
func (p *plainHandles) seen() []byte {
	var out []byte
	for b := 2 + p.size; b < p.blocks; b++ {
		out = append(out, p.now(b)...)
	}
	return out
}

func (p *plainHandles) running() int64 {
	return int64(len(p.homes) + len(p.revokes))
}

func (p *plainHandles) answer(c impl.TxnCall) impl.TxnAnswer {
	open := p.handle != nil
	switch {
	case c.Kind < 1 || c.Kind > 9:
		return impl.TxnAnswer{Code: 44}
	case (c.Kind == 1 || c.Kind == 7 || c.Kind == 8) && open:
		return impl.TxnAnswer{Code: 20}
	case (c.Kind == 2 || c.Kind == 3 || c.Kind == 5 || c.Kind == 6) && !open:
		return impl.TxnAnswer{Code: 22}
	case c.Kind >= 2 && c.Kind <= 4 && (c.Block < 2+p.size || c.Block >= p.blocks), c.Kind == 2 && len(c.Data) != 64:
		return impl.TxnAnswer{Code: 23}
	}
	switch c.Kind {
	case 1:
		return p.begin(c.Count)
	case 2, 3:
		return p.change(c)
	case 4:
		return impl.TxnAnswer{Data: bytes.Clone(p.now(c.Block))}
	case 6:
		p.homes, p.revokes = p.handle.homes, p.handle.revokes
		fallthrough
	case 5:
		p.handle = nil
	case 7:
		p.commit()
	case 8:
		p.checkpoint()
	case 9:
		return impl.TxnAnswer{State: impl.TxnState{Seq: p.log.Seq, Head: p.log.Head, Used: p.log.Used, Running: p.running(), Committed: int64(len(p.committed))}}
	}
	return impl.TxnAnswer{}
}

func (p *plainHandles) begin(count int64) impl.TxnAnswer {
	if count < 1 || count > p.size/4 {
		return impl.TxnAnswer{Code: 21}
	}
	if p.running()+count > p.size/4 {
		p.opened++
		p.commit()
	}
	p.handle = &plainHandle{credits: count, blocks: map[int64]bool{}, homes: maps.Clone(p.homes), revokes: maps.Clone(p.revokes)}
	return impl.TxnAnswer{}
}

func (p *plainHandles) change(c impl.TxnCall) impl.TxnAnswer {
	if !p.handle.blocks[c.Block] && int64(len(p.handle.blocks)) == p.handle.credits {
		return impl.TxnAnswer{Code: 24}
	}
	p.handle.blocks[c.Block] = true
	delete(p.homes, c.Block)
	delete(p.revokes, c.Block)
	if c.Kind == 2 {
		p.homes[c.Block] = c.Data
	} else {
		p.revokes[c.Block] = true
	}
	return impl.TxnAnswer{}
}

func (p *plainHandles) commit() {
	if p.running() == 0 {
		return
	}
	x := impl.Txn{Seq: p.log.Seq, Homes: asHomes(p.homes), Revokes: slices.Sorted(maps.Keys(p.revokes))}
	m := plainMark{from: len(p.ops), txn: x}
	if int64(len(plainTxn(x))/64) > p.log.Size-p.log.Used {
		p.pressed++
		p.checkpoint()
	}
	ops, next := plainAppend(p.log, x)
	m.appended, m.log, m.since = len(p.ops), p.log, slices.Clone(p.since)
	p.do(ops)
	if next.Head < p.log.Head {
		p.rounds++
	}
	p.log = next
	p.since = append(p.since, x)
	for b := range p.revokes {
		delete(p.committed, b)
		p.loose[b] = true
	}
	for b, data := range p.homes {
		p.committed[b] = data
		delete(p.loose, b)
	}
	p.homes, p.revokes = map[int64][]byte{}, map[int64]bool{}
	m.end, m.seen, m.loose = len(p.ops), p.seen(), maps.Clone(p.loose)
	p.marks = append(p.marks, m)
}

func (p *plainHandles) checkpoint() {
	if p.log.Used > 0 {
		p.do(plainCheckpoint(p.log, asHomes(p.committed)))
		p.log.Start, p.log.Used = p.log.Head, 0
	}
	p.committed = map[int64][]byte{}
	p.since = nil
}

// plainCheckpoint is what CheckpointOps has to answer.
func plainCheckpoint(l impl.Log, homes []impl.Home) []impl.Op {
	if !isLog(l) || l.Used == 0 || len(homes) > 600 {
		return nil
	}
	var ops []impl.Op
	for _, h := range homes {
		ops = append(ops, impl.Op{Kind: 1, Block: h.Block, Data: h.Data})
	}
	if len(homes) > 0 {
		ops = append(ops, flushOp())
	}
	return append(ops, plainStart(l)...)
}

// run is what RunTxn has to answer when so many of the operations are done, and the disk is as it is then.
func (p *plainHandles) run(done int, d impl.Disk) impl.TxnRun {
	r := impl.TxnRun{Stopped: done < len(p.ops), Ops: int64(done), Disk: d}
	if done < p.marks[0].end {
		return r
	}
	for i, a := range p.answers {
		if p.behind[i] <= done {
			r.Answers = append(r.Answers, a)
		}
	}
	return r
}

// step is a disk behind one operation more.
func step(d impl.Disk, op impl.Op) impl.Disk {
	if op.Kind == 1 {
		return impl.Disk{Durable: d.Durable, Pending: append(slices.Clip(d.Pending), impl.Write{Block: op.Block, Data: op.Data})}
	}
	return plainCrash(d, all)
}

// checkRun holds RunTxn with one limit against the document.
func checkRun(t *testing.T, name string, d impl.Disk, calls []impl.TxnCall, limit int64) *plainHandles {
	t.Helper()
	want := impl.TxnRun{}
	p, code := plainHandlesOf(d, calls)
	if code != 0 {
		want.Code = code
	} else {
		done := len(p.ops)
		if limit >= 0 && limit < int64(done) {
			done = int(limit)
		}
		behind := d
		for _, op := range p.ops[:done] {
			behind = step(behind, op)
		}
		want = p.run(done, behind)
	}
	sameRun(t, name, limit, impl.RunTxn(d, calls, limit), want)
	return p
}

// checkRunStopped holds RunTxn against the document, stopped at each of its operations, and not stopped.
func checkRunStopped(t *testing.T, name string, d impl.Disk, calls []impl.TxnCall) *plainHandles {
	t.Helper()
	p := checkRun(t, name, d, calls, -1)
	behind := d
	for done := range p.ops {
		sameRun(t, name, int64(done), impl.RunTxn(d, calls, int64(done)), p.run(done, behind))
		behind = step(behind, p.ops[done])
	}
	for _, limit := range []int64{0, 1} {
		limit += int64(len(p.ops))
		sameRun(t, name, limit, impl.RunTxn(d, calls, limit), p.run(len(p.ops), behind))
	}
	return p
}

func sameRun(t *testing.T, name string, limit int64, got, want impl.TxnRun) {
	t.Helper()
	if value(got) == value(want) {
		return
	}
	if got.Code != want.Code || got.Stopped != want.Stopped || got.Ops != want.Ops || len(got.Answers) != len(want.Answers) {
		t.Fatalf("%s, limit %d: code %d, stopped %v, %d operations, %d answers, not %d, %v, %d, %d", name, limit,
			got.Code, got.Stopped, got.Ops, len(got.Answers), want.Code, want.Stopped, want.Ops, len(want.Answers))
	}
	for i, a := range got.Answers {
		if value(a) != value(want.Answers[i]) {
			t.Fatalf("%s, limit %d: call %d answers %v, not %v", name, limit, i, a, want.Answers[i])
		}
	}
	t.Fatalf("%s, limit %d: another disk, %d pending, not %d", name, limit, len(got.Disk.Pending), len(want.Disk.Pending))
}

// callDraw draws calls for a log of this size, on a disk of so many blocks.
type callDraw struct {
	draw         *rand.Rand
	size, blocks int64
	frees        bool
	open         bool
}

func (w *callDraw) home() int64 {
	return 2 + w.size + w.draw.Int63n(w.blocks-2-w.size)
}

func (w *callDraw) change() impl.TxnCall {
	if w.frees && w.draw.Intn(4) == 0 {
		return freeCall(w.home())
	}
	data := drawn(64, w.draw.Int63n(9))
	if w.draw.Intn(5) == 0 {
		copy(data, magic)
	}
	return impl.TxnCall{Kind: 2, Block: w.home(), Data: data}
}

// next is a call that fits, as far as a handle has to be open or not; now and then one that may not.
func (w *callDraw) next() impl.TxnCall {
	n := w.draw.Intn(40)
	switch {
	case n == 0:
		return impl.TxnCall{Kind: w.draw.Int63n(4) + 2, Block: w.draw.Int63n(w.blocks + 2), Data: drawn(63+w.draw.Intn(3), 1)}
	case n == 1:
		return impl.TxnCall{Kind: w.draw.Int63n(12) - 1, Block: w.home(), Count: w.draw.Int63n(w.size/4+3) - 1, Data: filled(1)}
	case n < 4:
		return getCall(w.home())
	case n == 4:
		return statusCall()
	case w.open && n < 29:
		return w.change()
	case w.open && n < 34:
		return abortCall()
	case w.open:
		return endCall()
	case n < 7:
		return checkpointCall()
	case n < 13:
		return commitCall()
	}
	return beginCall(1 + w.draw.Int63n(w.size/4))
}

func (w *callDraw) calls(n int) []impl.TxnCall {
	var out []impl.TxnCall
	for range n {
		c := w.next()
		switch c.Kind {
		case 1:
			w.open = w.open || c.Count >= 1 && c.Count <= w.size/4
		case 5, 6:
			w.open = false
		}
		out = append(out, c)
	}
	return out
}
