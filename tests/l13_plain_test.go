package tests

import (
	"slices"
	"strings"
	"testing"

	"loop.example/s01525/impl"
)

// Chapter 13 is chapter 12 without a disk: the trees of its plain telling are taken from call to call, and nothing is laid down.

// bareSystem has an empty root, and no disk; nil if the geometry is not valid.
func bareSystem(g impl.Geometry) *plainSystem {
	p, ok := plainPlaces(g)
	if !ok {
		return nil
	}
	root := plainThing{kind: impl.KindDir, links: 1, blocks: map[int64]string{}}
	return &plainSystem{plainHandles: &plainHandles{}, g: g, p: p, open: map[int64]int64{}, bare: true, seenTree: plainTree{1: root}}
}

// nodes are what is seen of a tree, below a path that leads to an inode.
func (t plainTree) nodes(path string, number int64) []impl.Node {
	x := t[number]
	n := impl.Node{Path: max(path, "/"), Kind: x.kind, Inode: number, Links: x.links, Size: x.size, Blocks: plainNeed(x.indexes())}
	if x.kind != impl.KindDir {
		n.Data = x.data()
		return []impl.Node{n}
	}
	out := []impl.Node{n}
	for _, e := range x.entries() {
		out = append(out, t.nodes(path+"/"+e.Name, e.Inode)...)
	}
	slices.SortFunc(out, func(a, b impl.Node) int { return strings.Compare(a.Path, b.Path) })
	return out
}

// plainRun is what PlainRun has to answer.
func plainRun(g impl.Geometry, calls []impl.Call) impl.PlainResult {
	s := bareSystem(g)
	if s == nil {
		return impl.PlainResult{Code: impl.ErrSuper}
	}
	if len(calls) > 1000 {
		return impl.PlainResult{Code: impl.ErrCall}
	}
	for _, c := range calls {
		s.call(c)
	}
	return impl.PlainResult{Answers: s.told, Nodes: s.tree().nodes("", 1)}
}

// samePlain holds what PlainRun answers against what it is to answer.
func samePlain(t *testing.T, name string, calls []impl.Call, got, want impl.PlainResult) {
	t.Helper()
	if value(got) == value(want) {
		return
	}
	for i := range min(len(got.Answers), len(want.Answers)) {
		if value(got.Answers[i]) != value(want.Answers[i]) {
			t.Fatalf("%s: call %d, %+v, answers %+v, not %+v", name, i, calls[i], got.Answers[i], want.Answers[i])
		}
	}
	for i := range min(len(got.Nodes), len(want.Nodes)) {
		if got.Nodes[i] != want.Nodes[i] {
			t.Fatalf("%s: node %d is %+v, not %+v", name, i, got.Nodes[i], want.Nodes[i])
		}
	}
	t.Fatalf("%s: code %d, %d answers, %d nodes, not %d, %d, %d", name, got.Code, len(got.Answers), len(got.Nodes), want.Code, len(want.Answers), len(want.Nodes))
}

// checkPlainly holds PlainRun against the document.
func checkPlainly(t *testing.T, name string, g impl.Geometry, calls []impl.Call) impl.PlainResult {
	t.Helper()
	got := impl.PlainRun(g, calls)
	samePlain(t, name, calls, got, plainRun(g, calls))
	return got
}

// checkTree is checkPlainly, and promise 14: the file system on a new disk answers the same, and has the same tree.
func checkTree(t *testing.T, name string, g impl.Geometry, calls []impl.Call) impl.PlainResult {
	t.Helper()
	got := checkPlainly(t, name, g, calls)
	d := impl.Mkfs(g)
	r, o := impl.Run(d, calls, -1), impl.Tree(d, calls)
	for i := range r.Answers {
		r.Answers[i].State = impl.TxnState{}
	}
	if r.Stopped || r.Code != o.Code {
		t.Fatalf("%s: Run is stopped, or has the code %d, and Tree %d", name, r.Code, o.Code)
	}
	samePlain(t, name+", on a disk", calls, got, impl.PlainResult{Code: r.Code, Answers: r.Answers, Nodes: o.Nodes})
	return got
}

// checkTold carries calls out behind others, all of which are to succeed, and holds the codes against what was written down, and all of
// it against the document and the file system.
func checkTold(t *testing.T, name string, g impl.Geometry, ahead []impl.Call, list ...expected) []impl.Answer {
	t.Helper()
	calls := slices.Clone(ahead)
	for _, e := range list {
		calls = append(calls, e.call)
	}
	r := checkTree(t, name, g, calls)
	if len(r.Answers) != len(calls) {
		t.Fatalf("%s: the code %d, and %d answers", name, r.Code, len(r.Answers))
	}
	for i, a := range r.Answers[:len(ahead)] {
		if a.Code != 0 {
			t.Fatalf("%s: call %d ahead, %+v, has the code %d", name, i, calls[i], a.Code)
		}
	}
	told := r.Answers[len(ahead):]
	for i, e := range list {
		if told[i].Code != e.code {
			t.Errorf("%s: call %d, %+v, has the code %d, not %d", name, i, e.call, told[i].Code, e.code)
		}
	}
	return told
}

// stem is a tree from which several lists of calls go on: what is known of it is worked out once.
type stem struct {
	g      impl.Geometry
	ahead  []impl.Call
	system *plainSystem
	disk   impl.Disk
}

// stemOf wants calls all of which succeed, and no handle open behind them.
func stemOf(t *testing.T, name string, g impl.Geometry, ahead []impl.Call) stem {
	t.Helper()
	checkTold(t, name, g, ahead)
	s := stem{g, ahead, bareSystem(g), grown(t, impl.Mkfs(g), ahead...)}
	for _, c := range ahead {
		s.system.call(c)
	}
	return s
}

// checkTold is what checkTold does with the stem's calls ahead.
func (s stem) checkTold(t *testing.T, name string, list ...expected) []impl.Answer {
	t.Helper()
	var calls []impl.Call
	system := *s.system
	system.told, system.toldAt, system.credits = slices.Clip(system.told), slices.Clip(system.toldAt), slices.Clip(system.credits)
	system.open = map[int64]int64{}
	for _, e := range list {
		calls = append(calls, e.call)
		system.call(e.call)
	}
	got := impl.PlainRun(s.g, append(slices.Clip(s.ahead), calls...))
	samePlain(t, name, append(slices.Clip(s.ahead), calls...), got, impl.PlainResult{Answers: system.told, Nodes: system.tree().nodes("", 1)})
	told := got.Answers[len(s.ahead):]
	if r := impl.Run(s.disk, calls, -1); withoutLog(r.Answers) != value(told) {
		t.Fatalf("%s: on a disk the answers are %+v, not %+v", name, r.Answers, told)
	}
	for i, e := range list {
		if told[i].Code != e.code {
			t.Errorf("%s: call %d, %+v, has the code %d, not %d", name, i, e.call, told[i].Code, e.code)
		}
	}
	return told
}
