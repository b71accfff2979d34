package tests

import (
	"math"
	"math/rand"
	"sync"
	"testing"
	"unsafe"

	"loop.example/s01525/impl"
)

func TestPurePlainRun(t *testing.T) {
	t.Parallel()
	scripts := pureScripts()
	scripts["names of all sorts"] = func() []impl.Call {
		return append(placeCalls()[:60], listOf("/"), listOf("/"), listOf("/a"), listOf("/d"), readlink("/s"), reading("/f", 0, 99), opening("/f"), preading(1, 3, 4), listOf("/d"))
	}
	scripts["as many as may be"] = func() []impl.Call {
		w := scriptDraw{draw: rand.New(rand.NewSource(13)), most: 300, names: 9, wild: true, system: bareSystem(impl.Geometry{Blocks: 200, Log: 64, Inodes: 30})}
		return w.callsOn(1000)
	}
	for _, g := range []impl.Geometry{{}, {Blocks: 60, Log: 40, Inodes: 8}, {Blocks: 200, Log: 64, Inodes: 30}, {Blocks: 22, Log: 16, Inodes: 1}, {Blocks: 2048, Log: 512, Inodes: 256}, {Blocks: math.MinInt64, Log: math.MaxInt64, Inodes: -1}} {
		for of, calls := range scripts {
			checkPure(t, pureCase{"PlainRun, " + of, impl.PlainRun, func() []any { return []any{g, calls()} }})
		}
	}
}

// Two answers share nothing with each other, nor with the nodes, and neither do two lists of names.
func TestPurePlainAnswersApart(t *testing.T) {
	g := impl.Geometry{Blocks: 90, Log: 64, Inodes: 12}
	calls := []impl.Call{mkdir("/d"), creating("/d/a"), creating("/d/b"), listOf("/d"), listOf("/d"), listOf("/"), listOf("/d"), unlinking("/d/a"), listOf("/d"), listOf("/"), creating("/d/a"), listOf("/d")}
	r := impl.PlainRun(g, calls)
	checkApart(t, "PlainRun", []any{calls, impl.PlainRun(g, calls)}, r)
	told := value(impl.PlainRun(g, calls))
	for i := range r.Answers {
		for k := range r.Answers[i].Names {
			r.Answers[i].Names[k] = "?"
		}
		r.Answers[i] = impl.Answer{Code: 99}
	}
	for i := range r.Nodes {
		r.Nodes[i] = impl.Node{Path: "?"}
	}
	if value(impl.PlainRun(g, calls)) != told {
		t.Error("writing over answers is seen in the next ones")
	}
}

// The texts of an answer are its own: writing over the bytes of which the calls' texts are made changes none of them.
func TestPurePlainTextsApart(t *testing.T) {
	var held [][]byte
	hold := func(text string) string {
		b := []byte(text)
		held = append(held, b)
		return unsafe.String(unsafe.SliceData(b), len(b))
	}
	calls := []impl.Call{mkdir("/dir"), creating("/dir/file"), writing("/dir/file", 0, "some data"), pointing("/link", "/dir/file"), linking("/dir/file", "/other"), renaming("/other", "/dir/moved"), listOf("/"), listOf("/dir"), readlink("/link"), reading("/link", 0, 99)}
	want := value(impl.PlainRun(impl.Geometry{Blocks: 90, Log: 64, Inodes: 12}, calls))
	for i := range calls {
		c := &calls[i]
		c.Path, c.To, c.Data = hold(c.Path), hold(c.To), hold(c.Data)
	}
	r := impl.PlainRun(impl.Geometry{Blocks: 90, Log: 64, Inodes: 12}, calls)
	for _, b := range held {
		for i := range b {
			b[i] = '?'
		}
	}
	if value(r) != want {
		t.Error("an answer has a text of its arguments")
	}
}

// plainRuns makes the function answer, wrong arguments among them, and tells all of it.
func plainRuns(seed int64) string {
	draw := rand.New(rand.NewSource(seed))
	var told []any
	plainScripts(draw, 6, 60, func(name string, g impl.Geometry, calls []impl.Call) {
		told = append(told, impl.PlainRun(g, calls), impl.PlainRun(impl.Geometry{Blocks: g.Blocks, Log: g.Log}, calls), impl.PlainRun(g, calls[:draw.Intn(60)]))
	})
	return value(told)
}

// What a call answers does not hang on what was called before it, nor beside it.
func TestPurePlainRuns(t *testing.T) {
	t.Parallel()
	first := plainRuns(3)
	for seed := range int64(6) {
		plainRuns(seed)
		if plainRuns(3) != first {
			t.Fatal("behind other calls the same calls answer otherwise, seed", seed)
		}
	}
	var got [8]string
	var all sync.WaitGroup
	for i := range got {
		all.Add(1)
		go func() {
			defer all.Done()
			got[i] = plainRuns(3)
		}()
	}
	all.Wait()
	for i, g := range got {
		if g != first {
			t.Error("calls at once answer otherwise:", i)
		}
	}
}

// Whatever stands in a call's fields: there is an answer, and it is that of the file system.
func TestPlainRunOfAnyCalls(t *testing.T) {
	t.Parallel()
	draw := rand.New(rand.NewSource(1301))
	texts := []string{"", "/", "/a", "/a/b", "/b", "//", "/a/", "a", "\x00", "/\xff", "/a\x00", longName, deepPath, deepPath + "/p", letters(3000, 1), "/" + letters(300, 1), "/c/d/e", "/.", "/.."}
	numbers := []int64{0, 1, 2, 8, 9, -1, 64, 512, 2559, 2560, 2561, math.MaxInt64, math.MinInt64, math.MaxInt64 - 2560, math.MinInt64 + 1}
	for range 60 {
		calls := make([]impl.Call, 120)
		for i := range calls {
			text, number := func() string { return texts[draw.Intn(len(texts))] }, func() int64 { return numbers[draw.Intn(len(numbers))] }
			calls[i] = impl.Call{Kind: draw.Int63n(29) - 1, Path: text(), To: text(), Handle: number(), Offset: number(), Size: number(), Data: text()}
			if draw.Intn(30) == 0 {
				calls[i].Kind = number()
			}
		}
		checkTree(t, "any calls", impl.Geometry{Blocks: 40 + draw.Int63n(100), Log: 16 + draw.Int63n(20), Inodes: 1 + draw.Int63n(6)}, calls)
	}
}
