package tests

import (
	"fmt"
	"math/rand"
	"testing"

	"loop.example/s01525/impl"
)

// plainGeometries are the least and the largest of each number, small logs, few inodes and few blocks for data, and drawn ones.
func plainGeometries(draw *rand.Rand, drawn int) []impl.Geometry {
	list := []impl.Geometry{
		{Blocks: 22, Log: 16, Inodes: 1}, {Blocks: 22, Log: 16, Inodes: 2}, {Blocks: 26, Log: 20, Inodes: 2}, {Blocks: 29, Log: 20, Inodes: 6}, {Blocks: 60, Log: 16, Inodes: 8}, {Blocks: 60, Log: 19, Inodes: 8},
		{Blocks: 60, Log: 20, Inodes: 8}, {Blocks: 60, Log: 24, Inodes: 8}, {Blocks: 80, Log: 27, Inodes: 2}, {Blocks: 80, Log: 28, Inodes: 20}, {Blocks: 120, Log: 40, Inodes: 30}, {Blocks: 512, Log: 32, Inodes: 20}, {Blocks: 513, Log: 32, Inodes: 20},
		{Blocks: 700, Log: 512, Inodes: 256}, {Blocks: 520, Log: 512, Inodes: 3}, {Blocks: 1025, Log: 64, Inodes: 255}, {Blocks: 2048, Log: 512, Inodes: 256}, {Blocks: 2048, Log: 33, Inodes: 256}, {Blocks: 2048, Log: 16, Inodes: 1}, {Blocks: 2047, Log: 200, Inodes: 1},
	}
	for range drawn {
		g := impl.Geometry{Log: 20 + draw.Int63n(60), Inodes: 2 + draw.Int63n(18)}
		g.Blocks = 4 + g.Log + (g.Inodes+1)/2 + 1 + draw.Int63n(1+draw.Int63n(100))
		list = append(list, g)
	}
	return list
}

// plainScripts are drawn calls for such geometries.
func plainScripts(draw *rand.Rand, drawn, length int, use func(name string, g impl.Geometry, calls []impl.Call)) {
	for i, g := range plainGeometries(draw, drawn) {
		w := scriptDraw{draw: draw, most: []int{70, 300, 900, 2700}[draw.Intn(4)], names: 2 + draw.Intn(6), wild: draw.Intn(2) == 0, system: bareSystem(g)}
		use(fmt.Sprint("script ", i, " of ", g), g, w.callsOn(length))
	}
}

// Promise 14: drawn calls of every kind on geometries of all sorts, each field of each answer and of each node.
func TestPlainDrawn(t *testing.T) {
	t.Parallel()
	codes, kinds := map[int64]int{}, map[int64]int{}
	plainScripts(rand.New(rand.NewSource(1314)), 60, 150, func(name string, g impl.Geometry, calls []impl.Call) {
		for i, a := range checkTree(t, name, g, calls).Answers {
			codes[a.Code]++
			if a.Code == 0 {
				kinds[calls[i].Kind]++
			}
		}
	})
	for kind := int64(1); kind <= 25; kind++ {
		if kinds[kind] < 20 {
			t.Error("kind", kind, "succeeds", kinds[kind], "times")
		}
	}
	for _, code := range append(runOf(30, 20), 0) {
		if codes[code] < 1 && code != impl.ErrDepth && code != impl.ErrLinks && code != impl.ErrTooBig {
			t.Error("code", code, "is not there:", codes)
		}
	}
}

// As many calls as there may be, on few and on many inodes.
func TestPlainDrawnLong(t *testing.T) {
	t.Parallel()
	draw := rand.New(rand.NewSource(1315))
	for _, g := range []impl.Geometry{{Blocks: 90, Log: 40, Inodes: 12}, {Blocks: 400, Log: 128, Inodes: 60}, {Blocks: 130, Log: 25, Inodes: 40}, {Blocks: 2048, Log: 512, Inodes: 256}} {
		for _, names := range []int{3, 20} {
			w := scriptDraw{draw: draw, most: 400, names: names, wild: true, system: bareSystem(g)}
			r := checkTree(t, fmt.Sprint(g), g, w.callsOn(1000))
			if len(r.Answers) != 1000 {
				t.Error(g, len(r.Answers))
			}
		}
	}
}

// The plain tree alone, over many more scripts than a disk has time for.
func TestPlainDrawnOften(t *testing.T) {
	t.Parallel()
	draw := rand.New(rand.NewSource(1316))
	refused := map[int64]int{}
	for range 8 {
		plainScripts(draw, 60, 120, func(name string, g impl.Geometry, calls []impl.Call) {
			for _, a := range checkPlainly(t, name, g, calls).Answers {
				refused[a.Code]++
			}
		})
	}
	if refused[impl.ErrCredit] < 500 || refused[impl.ErrNoSpace] < 500 {
		t.Error(refused)
	}
}

// Promise 15: the calls that are refused left out, all other answers are the same, and the nodes.
func TestPlainRefusedCallsChangeNothing(t *testing.T) {
	t.Parallel()
	left := 0
	plainScripts(rand.New(rand.NewSource(1317)), 150, 150, func(name string, g impl.Geometry, calls []impl.Call) {
		r := impl.PlainRun(g, calls)
		var good []impl.Call
		want := impl.PlainResult{Nodes: r.Nodes}
		for i, a := range r.Answers {
			if a.Code == 0 {
				good, want.Answers = append(good, calls[i]), append(want.Answers, a)
			}
		}
		left += len(calls) - len(good)
		samePlain(t, name+", without what is refused", good, impl.PlainRun(g, good), want)
	})
	if left < 5000 {
		t.Error(left)
	}
}
