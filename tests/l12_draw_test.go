package tests

import (
	"maps"
	"math"
	"math/rand"
	"slices"
	"strings"

	"loop.example/s01525/impl"
)

func ofPath(kind int64, path string) impl.Call { return impl.Call{Kind: kind, Path: path} }
func ofTwo(kind int64, path, to string) impl.Call {
	return impl.Call{Kind: kind, Path: path, To: to}
}

func creating(path string) impl.Call     { return ofPath(impl.CallCreate, path) }
func mkdir(path string) impl.Call        { return ofPath(impl.CallMkdir, path) }
func unlinking(path string) impl.Call    { return ofPath(impl.CallUnlink, path) }
func rmdir(path string) impl.Call        { return ofPath(impl.CallRmdir, path) }
func opening(path string) impl.Call      { return ofPath(impl.CallOpen, path) }
func statOf(path string) impl.Call       { return ofPath(impl.CallStat, path) }
func lstatOf(path string) impl.Call      { return ofPath(impl.CallLstat, path) }
func listOf(path string) impl.Call       { return ofPath(impl.CallList, path) }
func readlink(path string) impl.Call     { return ofPath(impl.CallReadlink, path) }
func syncing() impl.Call                 { return ofPath(impl.CallSync, "") }
func checkpointing() impl.Call           { return ofPath(impl.CallCheckpoint, "") }
func spaceLeft() impl.Call               { return ofPath(impl.CallSpace, "") }
func logNow() impl.Call                  { return ofPath(impl.CallLog, "") }
func renaming(path, to string) impl.Call { return ofTwo(impl.CallRename, path, to) }
func linking(path, to string) impl.Call  { return ofTwo(impl.CallLink, path, to) }
func pointing(path, to string) impl.Call { return ofTwo(impl.CallSymlink, path, to) }

func writing(path string, at int64, data string) impl.Call {
	return impl.Call{Kind: impl.CallWrite, Path: path, Offset: at, Data: data}
}

func appending(path string, data string) impl.Call {
	return impl.Call{Kind: impl.CallAppend, Path: path, Data: data}
}

func truncating(path string, size int64) impl.Call {
	return impl.Call{Kind: impl.CallTruncate, Path: path, Size: size}
}

func reading(path string, at, size int64) impl.Call {
	return impl.Call{Kind: impl.CallRead, Path: path, Offset: at, Size: size}
}

func pwriting(handle, at int64, data string) impl.Call {
	return impl.Call{Kind: impl.CallPwrite, Handle: handle, Offset: at, Data: data}
}

func ftruncating(handle, size int64) impl.Call {
	return impl.Call{Kind: impl.CallFtruncate, Handle: handle, Size: size}
}

func preading(handle, at, size int64) impl.Call {
	return impl.Call{Kind: impl.CallPread, Handle: handle, Offset: at, Size: size}
}

func closing(handle int64) impl.Call { return impl.Call{Kind: impl.CallClose, Handle: handle} }
func fstatOf(handle int64) impl.Call { return impl.Call{Kind: impl.CallFstat, Handle: handle} }

// letters are so many bytes, none of them 0, that differ from piece to piece.
func letters(n int, first byte) string {
	out := make([]byte, n)
	for i := range out {
		out[i] = 'a' + (first+byte(i/7))%26
	}
	return string(out)
}

// scriptDraw draws calls of all kinds. It carries each out plainly, so that most of them are about what is there.
type scriptDraw struct {
	draw *rand.Rand
	// most is how long data may be, names how many there are.
	most, names int
	// wild has wrong paths, numbers and kinds among them.
	wild   bool
	system *plainSystem
	// paths are those that lead somewhere now, by kind.
	paths map[int64][]string
}

// look finds out which paths there are.
func (w *scriptDraw) look() {
	t := w.system.tree()
	w.paths = map[int64][]string{impl.KindDir: {""}}
	var walk func(path string, number int64)
	walk = func(path string, number int64) {
		for _, e := range t[number].entries() {
			below, kind := path+"/"+e.Name, t[e.Inode].kind
			w.paths[kind] = append(w.paths[kind], below)
			if kind == impl.KindDir {
				walk(below, e.Inode)
			}
		}
	}
	walk("", 1)
}

// one is a path of one of these kinds; a new one if there is none.
func (w *scriptDraw) one(kinds ...int64) string {
	var list []string
	for _, kind := range kinds {
		list = append(list, w.paths[kind]...)
	}
	if len(list) == 0 {
		return w.newPath()
	}
	// The root is kept as the empty text, which comes ahead of all paths.
	return max(list[w.draw.Intn(len(list))], "/")
}

// odd is a path that is none, or a strange one; most often there is none.
func (w *scriptDraw) odd() (string, bool) {
	list := []string{"", "/", "a", "/a/", "//", "/..", "/abcdefghijklmn", "/a b", "/" + strings.Repeat("x", 300), strings.Repeat("/a", 16), strings.Repeat("/b", 17)}
	if w.wild && w.draw.Intn(25) == 0 {
		return list[w.draw.Intn(len(list))], true
	}
	return "", false
}

// newPath is where there may be something, in a directory or behind a symbolic link.
func (w *scriptDraw) newPath() string {
	if path, ok := w.odd(); ok {
		return path
	}
	dirs := w.paths[impl.KindDir]
	if w.draw.Intn(5) == 0 {
		dirs = append(slices.Clip(dirs), w.paths[impl.KindLink]...)
	}
	return dirs[w.draw.Intn(len(dirs))] + "/" + string([]byte{byte('a' + w.draw.Intn(w.names))})
}

// path is one that a call of this kind is likely to be good for.
func (w *scriptDraw) path(kind int64) string {
	if path, ok := w.odd(); ok {
		return path
	}
	if w.draw.Intn(12) == 0 {
		return w.one(impl.KindDir, impl.KindFile, impl.KindLink)
	}
	switch kind {
	case impl.CallCreate, impl.CallMkdir, impl.CallSymlink:
		return w.newPath()
	case impl.CallRmdir, impl.CallList:
		return w.one(impl.KindDir)
	case impl.CallReadlink:
		return w.one(impl.KindLink)
	case impl.CallUnlink, impl.CallLink:
		return w.one(impl.KindFile, impl.KindLink)
	case impl.CallRename, impl.CallStat, impl.CallLstat:
		return w.one(impl.KindDir, impl.KindFile, impl.KindLink)
	}
	if w.draw.Intn(6) == 0 {
		return w.one(impl.KindLink)
	}
	return w.one(impl.KindFile)
}

func (w *scriptDraw) to(kind int64) string {
	if kind == impl.CallLink || w.draw.Intn(2) == 0 {
		return w.newPath()
	}
	return w.one(impl.KindDir, impl.KindFile, impl.KindLink)
}

// number is an offset or a size.
func (w *scriptDraw) number() int64 {
	if w.wild && w.draw.Intn(25) == 0 {
		return []int64{-1, 2561, math.MaxInt64, math.MinInt64, math.MaxInt64 - 5}[w.draw.Intn(5)]
	}
	edges := []int64{0, 0, 0, 1, 63, 64, 65, 128, 448, 511, 512, 513, 640, 2559, 2560}
	if w.draw.Intn(3) == 0 {
		return edges[w.draw.Intn(len(edges))]
	}
	return w.draw.Int63n(int64(2*w.most + 1))
}

func (w *scriptDraw) data() string {
	return letters(w.draw.Intn(1+w.draw.Intn(w.most+1)), byte(w.draw.Intn(26)))
}

func (w *scriptDraw) handle() int64 {
	if open := slices.Sorted(maps.Keys(w.system.open)); len(open) > 0 && w.draw.Intn(12) > 0 {
		return open[w.draw.Intn(len(open))]
	}
	return []int64{1, 2, 8, 0, -1, 9, math.MaxInt64, math.MinInt64}[w.draw.Intn(8)]
}

// next is a call; those that change something come more often than the others.
func (w *scriptDraw) next() impl.Call {
	kinds := []int64{
		1, 1, 1, 1, 2, 2, 2, 3, 3, 4, 5, 5, 5, 5, 6, 6, 6, 6, 7, 7, 8, 8, 9, 9, 10, 10, 11, 11, 11, 12, 13, 13, 14, 14, 14, 15, 16, 17, 18, 19, 20, 21, 22, 23, 24, 25,
	}
	kind := kinds[w.draw.Intn(len(kinds))]
	if w.wild && w.draw.Intn(60) == 0 {
		kind = []int64{0, 26, -1, math.MinInt64, math.MaxInt64}[w.draw.Intn(5)]
	}
	return impl.Call{Kind: kind, Path: w.path(kind), To: w.to(kind), Handle: w.handle(), Offset: w.number(), Size: w.number(), Data: w.data()}
}

// calls are so many for this disk.
func (w *scriptDraw) calls(d impl.Disk, n int) []impl.Call {
	w.system, _ = plainSystemOf(d, nil)
	return w.callsOn(n)
}

// callsOn are so many for the system as it is.
func (w *scriptDraw) callsOn(n int) []impl.Call {
	var out []impl.Call
	for range n {
		w.look()
		c := w.next()
		w.system.call(c)
		out = append(out, c)
	}
	return out
}
