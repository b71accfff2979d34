package tests

import (
	"fmt"
	"math"
	"slices"
	"testing"

	"loop.example/s01525/impl"
)

func TestPlainHandleNumbers(t *testing.T) {
	g := impl.Geometry{Blocks: 60, Log: 40, Inodes: 8}
	calls, want := handleNumbers()
	told := checkTree(t, "numbers", g, append(handleTree(), calls...)).Answers[len(handleTree()):]
	for i, a := range told {
		if a.Handle != want[i] {
			t.Error("call", i, calls[i], "has the handle", a.Handle, "not", want[i])
		}
	}
	if told[8].Code != impl.ErrHandles || told[9].Code != impl.ErrIsDir || told[10].Code != impl.ErrNoEntry || told[19].Code != impl.ErrHandles {
		t.Error(told[8:20])
	}
	// A handle that is none, whichever of them are open.
	for _, handle := range []int64{0, -1, 3, 9, 10, math.MaxInt64, math.MinInt64} {
		for _, ahead := range handlesAhead() {
			checkTold(t, fmt.Sprint("handle ", handle), g, append(handleTree(), ahead...), noHandle(handle)...)
		}
	}
	checkTold(t, "in order", g, append(handleTree(), opening("/f")), behindHandle()...)
}

// A file that is open is read and written, whatever becomes of its names.
func TestPlainHandlesOutliveNames(t *testing.T) {
	g := impl.Geometry{Blocks: 80, Log: 48, Inodes: 8}
	free := impl.PlainRun(g, append(outliveTree(), spaceLeft())).Answers[len(outliveTree())].Stat
	for name, lose := range losses() {
		calls := slices.Concat(outliveTree(), []impl.Call{opening("/f"), opening("/f")}, lose)
		a := checkTree(t, name, g, append(slices.Clip(calls), useNameless()...)).Answers
		checkNameless(t, name, a[len(calls):], free)
		// No node tells of what has no name.
		for _, n := range impl.PlainRun(g, calls).Nodes {
			if n.Kind == impl.KindFile && n.Links == 0 || n.Size == 100 {
				t.Errorf("%s: %+v", name, n)
			}
		}
	}
}

// Other names of a file that is open: it is not freed as long as one of them, or one handle, is left.
func TestPlainHandlesAndNames(t *testing.T) {
	g := impl.Geometry{Blocks: 80, Log: 48, Inodes: 4}
	r := checkTree(t, "numbers of inodes", g, keptInodes())
	checkKept(t, r.Answers, r.Nodes)
	base := []impl.Call{creating("/f"), writing("/f", 0, "data"), linking("/f", "/g"), opening("/f"), opening("/g")}
	whole, freed := impl.Stat{Size: 2, Blocks: 80 - 2 - 48 - 2 - 2 - 2}, impl.Stat{Size: 3, Blocks: 80 - 2 - 48 - 2 - 2}
	for name, c := range map[string]struct {
		calls []impl.Call
		space impl.Stat
	}{
		"both names, both handles":   {nil, whole},
		"both names":                 {[]impl.Call{closing(1), closing(2)}, whole},
		"a name":                     {[]impl.Call{closing(1), closing(2), unlinking("/f")}, whole},
		"a name and a handle":        {[]impl.Call{closing(1), unlinking("/f")}, whole},
		"both handles":               {[]impl.Call{unlinking("/f"), unlinking("/g")}, impl.Stat{Size: 2, Blocks: whole.Blocks + 1}},
		"the first handle":           {[]impl.Call{unlinking("/f"), unlinking("/g"), closing(2)}, impl.Stat{Size: 2, Blocks: whole.Blocks + 1}},
		"the second handle":          {[]impl.Call{unlinking("/f"), unlinking("/g"), closing(1)}, impl.Stat{Size: 2, Blocks: whole.Blocks + 1}},
		"none, the handles last":     {[]impl.Call{unlinking("/f"), unlinking("/g"), closing(1), closing(2)}, freed},
		"none, the names last":       {[]impl.Call{closing(2), closing(1), unlinking("/g"), unlinking("/f")}, freed},
		"none, renamed over":         {[]impl.Call{creating("/n"), renaming("/n", "/f"), renaming("/f", "/g"), unlinking("/g"), closing(1), closing(2)}, freed},
		"the handle is opened again": {[]impl.Call{closing(1), opening("/g"), unlinking("/f"), unlinking("/g"), closing(2)}, impl.Stat{Size: 2, Blocks: whole.Blocks + 1}},
	} {
		calls := slices.Concat(base, c.calls)
		a := checkTold(t, name, g, calls, expected{spaceLeft(), 0})
		if a[0].Stat != c.space {
			t.Errorf("%s: %+v is left, not %+v", name, a[0].Stat, c.space)
		}
	}
}

// Eight handles on eight files, all without a name, closed in any order.
func TestPlainHandlesClosedInAnyOrder(t *testing.T) {
	g := impl.Geometry{Blocks: 100, Log: 64, Inodes: 12}
	for _, order := range [][]int64{{1, 2, 3, 4, 5, 6, 7, 8}, {8, 7, 6, 5, 4, 3, 2, 1}, {3, 8, 1, 6, 2, 7, 5, 4}} {
		var calls []impl.Call
		for n := range int64(8) {
			path := fmt.Sprint("/f", n)
			calls = append(calls, creating(path), writing(path, n*40, letters(int(n)*9, byte(n))), opening(path), unlinking(path))
		}
		calls = append(calls, spaceLeft())
		for _, handle := range order {
			calls = append(calls, closing(handle), spaceLeft())
		}
		r := checkTree(t, fmt.Sprint(order), g, calls)
		for i, c := range calls[32:] {
			if free := r.Answers[32+i].Stat.Size; c.Kind == impl.CallSpace && free != 3+int64(i/2) {
				t.Error(order, i, free)
			}
		}
		if last := r.Answers[len(calls)-1].Stat; last != (impl.Stat{Size: 11, Blocks: 26}) || len(r.Nodes) != 1 {
			t.Error(order, last, r.Nodes)
		}
	}
}
