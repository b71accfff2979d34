package tests

import (
	"math/rand"
	"slices"
	"sync"
	"testing"

	"loop.example/s01525/impl"
)

// systemDisks are disks of all sorts, made anew each time: whole ones, ones with pending writes, ones that break rules, and none.
func systemDisks() map[string]func() impl.Disk {
	pending := func(m *made, blocks ...int64) impl.Disk {
		d := m.disk
		for _, b := range blocks {
			d.Pending = append(d.Pending, impl.Write{Block: b, Data: slices.Clone(d.Durable[b*64:][:64])})
		}
		return d
	}
	return map[string]func() impl.Disk{
		"no disk":     func() impl.Disk { return impl.Disk{} },
		"a piece":     func() impl.Disk { return impl.Disk{Durable: drawn(100, 3)} },
		"zeros":       func() impl.Disk { return impl.Disk{Durable: make([]byte, 640)} },
		"drawn bytes": func() impl.Disk { return impl.Disk{Durable: drawn(640, 4)} },
		"a write too far": func() impl.Disk {
			return impl.Disk{Durable: sample().disk.Durable, Pending: []impl.Write{{Block: 600}}}
		},
		"a new one":      func() impl.Disk { return impl.Disk{Durable: plainMkfs(impl.Geometry{Blocks: 22, Log: 16, Inodes: 1})} },
		"whole":          func() impl.Disk { return named().disk },
		"without a name": func() impl.Disk { return sample().disk },
		"little":         func() impl.Disk { return little().disk },
		"pending":        func() impl.Disk { return pending(sample(), 66, 300, 66, 92) },
		"pending supers": func() impl.Disk { return pending(sample(), 0, 1, 85, 100) },
		"wrong maps":     func() impl.Disk { return harmed(func(m *made) { m.put(66, 0, drawn(192, 2)...) }) },
		"not reached": func() impl.Disk {
			return sampleWith(map[int64]item{20: dirOf(), 21: sizedFile(1, 999), 22: linkTo(1, "/x")}).disk
		},
		"wrong names":  func() impl.Disk { return harmed(func(m *made) { m.change(3, func(i *impl.Inode) { i.Links = 7 }) }) },
		"no directory": func() impl.Disk { return harmed(func(m *made) { m.put(87, 3, '/') }) },
		"in a ring":    func() impl.Disk { return withEntry(2, "x").disk },
		"too deep":     func() impl.Disk { return laid(impl.Geometry{Blocks: 200, Log: 16, Inodes: 40}, chain(20, nil)).disk },
		"many broken":  func() impl.Disk { return poked(impl.Disk{Durable: drawn(38400, 5)}, 0, sample().disk.Durable[:64]...) },
		"no journal":   func() impl.Disk { return harmed(func(m *made) { m.put(1, 0, 1) }) },
		"pointers astray": func() impl.Disk {
			return harmed(func(m *made) { m.change(5, func(i *impl.Inode) { i.Direct[2] = 92 }) })
		},
		"a list too large": func() impl.Disk { return harmed(func(m *made) { m.put(100, 6, 255) }) },
	}
}

func TestPureSeen(t *testing.T) {
	for name, disk := range systemDisks() {
		for what, fn := range map[string]any{"Check": impl.Check, "Observe": impl.Observe, "Repair": impl.Repair} {
			checkPure(t, pureCase{what + " of " + name, fn, func() []any { return []any{disk()} }})
		}
	}
}

func TestPureCount(t *testing.T) {
	draw := rand.New(rand.NewSource(1111))
	lists := [][]impl.Node{nil, {}, make([]impl.Node, 10000), make([]impl.Node, 10001), impl.Observe(sample().disk).Nodes}
	for range 10 {
		lists = append(lists, drawnNodes(draw, draw.Intn(20)))
	}
	for _, nodes := range lists {
		checkPure(t, pureCase{"Count", impl.Count, func() []any { return []any{slices.Clone(nodes)} }})
	}
}

// Two answers of one call share nothing, and a disk that is as it was is new all the same.
func TestPureSeenApart(t *testing.T) {
	for name, disk := range systemDisks() {
		d := disk()
		checkApart(t, "Check of "+name, []any{d, impl.Check(d)}, impl.Check(d))
		checkApart(t, "Observe of "+name, []any{d, impl.Observe(d)}, impl.Observe(d))
		checkApart(t, "Repair of "+name, []any{d, impl.Repair(d)}, impl.Repair(d))
	}
}

// seenCalls makes the four functions answer, of whole disks and others, and tells all of it.
func seenCalls(seed int64) string {
	draw := rand.New(rand.NewSource(seed))
	var told []any
	for range 4 {
		m := drawnSystem(draw)
		for range draw.Intn(3) {
			m.harm(draw)
		}
		m.lose(draw)
		o := impl.Observe(m.disk)
		told = append(told, impl.Check(m.disk), o, impl.Count(o.Nodes), impl.Repair(m.disk), impl.Count(drawnNodes(draw, 9)))
	}
	return value(told)
}

// What a call answers does not hang on what was called before it, nor beside it.
func TestPureSeenCalls(t *testing.T) {
	t.Parallel()
	first := seenCalls(3)
	for seed := range int64(20) {
		seenCalls(seed)
		if seenCalls(3) != first {
			t.Fatal("behind other calls the same calls answer otherwise, seed", seed)
		}
	}
	var got [8]string
	var all sync.WaitGroup
	for i := range got {
		all.Add(1)
		go func() {
			defer all.Done()
			got[i] = seenCalls(3)
		}()
	}
	all.Wait()
	for i, g := range got {
		if g != first {
			t.Error("calls at once answer otherwise:", i)
		}
	}
}
