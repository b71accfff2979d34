package tests

import (
	"bytes"
	"maps"
	"slices"
	"testing"

	"loop.example/s01525/impl"
)

// Chapter 12 once more, written down plainly: trees are taken as wholes, ahead of a call and behind it, and what a call does to blocks
// is seen by holding two whole disks against each other.

// plainThing is an inode in use, wherever it lies; blocks are the bytes of each index that has a block.
type plainThing struct {
	kind, links, size int64
	blocks            map[int64]string
}

type plainTree map[int64]plainThing

// plainSystem is a mounted disk all of whose operations are done.
type plainSystem struct {
	*plainHandles
	g    impl.Geometry
	p    impl.Places
	open map[int64]int64
	told []impl.Answer
	// toldAt is how many operations were done when each answer was told, mounted when the first call began.
	toldAt  []int
	mounted int
	commits []int64
	// credits are those of each call, as far as it has any.
	credits []int64
	// seenTree is the tree as it is now, if somebody has looked since it was changed.
	seenTree plainTree
	// bare has no disk: its tree is all that there is.
	bare bool
}

func (x plainThing) data() string {
	out := make([]byte, 40*64)
	for index, b := range x.blocks {
		copy(out[64*index:], b)
	}
	return string(out[:x.size])
}

func (x plainThing) entries() []impl.Entry {
	return dirKind().parse([]byte(x.data())).([]impl.Entry)
}

// withBytes is the thing with these bytes from offset on, each index that they touch with a block.
func (x plainThing) withBytes(offset int64, data string) plainThing {
	x.blocks = maps.Clone(x.blocks)
	for i := range int64(len(data)) {
		index, at := (offset+i)/64, (offset+i)%64
		if _, ok := x.blocks[index]; !ok {
			x.blocks[index] = string(make([]byte, 64))
		}
		b := []byte(x.blocks[index])
		b[at] = data[i]
		x.blocks[index] = string(b)
		x.size = max(x.size, offset+i+1)
	}
	return x
}

// cut is the thing with another size.
func (x plainThing) cut(size int64) plainThing {
	old := x.blocks
	x.blocks = map[int64]string{}
	for index, b := range old {
		left := min(64, size-64*index)
		if left > 0 {
			x.blocks[index] = b[:left] + string(make([]byte, 64-left))
		}
	}
	x.size = size
	return x
}

func (x plainThing) withEntries(entries []impl.Entry) plainThing {
	empty := plainThing{kind: x.kind, links: x.links, blocks: map[int64]string{}}
	return empty.withBytes(0, string(dirKind().plain(entries)))
}

func (x plainThing) indexes() []int64 {
	return slices.Sorted(maps.Keys(x.blocks))
}

// listed are the indexes that stand in a pointer block.
func (x plainThing) listed() []int64 {
	return slices.DeleteFunc(x.indexes(), func(index int64) bool { return index < 8 })
}

func (x plainThing) freeing(mapBlocks int64) int64 {
	if blocks := plainNeed(x.indexes()); blocks > 0 {
		return 2 + blocks + mapBlocks
	}
	return 2
}

// follow goes on from where a way of inodes, the root first, has come to.
func (t plainTree) follow(way []int64, names []string, last bool, links int) ([]int64, int64) {
	if len(names) == 0 {
		return way, 0
	}
	here := t[way[len(way)-1]]
	if here.kind != impl.KindDir {
		return nil, impl.ErrNotDir
	}
	at := plainFind(here.entries(), names[0])
	if at < 0 {
		return nil, impl.ErrNoEntry
	}
	next := here.entries()[at].Inode
	if t[next].kind == impl.KindLink && (last || len(names) > 1) {
		if links == 8 {
			return nil, impl.ErrLoop
		}
		return t.follow([]int64{1}, append(plainSplit(t[next].data()).Names, names[1:]...), last, links+1)
	}
	return t.follow(append(slices.Clip(way), next), names[1:], last, links)
}

// find is the way to a path, the root first.
func (t plainTree) find(path string, last bool) ([]int64, int64) {
	s := plainSplit(path)
	if s.Code != 0 {
		return nil, s.Code
	}
	return t.follow([]int64{1}, s.Names, last, 0)
}

// parent is the way to the directory of the last of some names.
func (t plainTree) parent(names []string) ([]int64, int64) {
	way, code := t.follow([]int64{1}, names[:len(names)-1], true, 0)
	if code == 0 && t[way[len(way)-1]].kind != impl.KindDir {
		return nil, impl.ErrNotDir
	}
	return way, code
}

// place is the way to a directory that has place for the last of some names.
func (t plainTree) place(names []string) ([]int64, int64) {
	way, code := t.parent(names)
	if code != 0 {
		return nil, code
	}
	entries := t[way[len(way)-1]].entries()
	switch {
	case plainFind(entries, names[len(names)-1]) >= 0:
		return nil, impl.ErrExists
	case len(entries) == 160:
		return nil, impl.ErrTooBig
	case len(way)-1 == 16:
		return nil, impl.ErrDepth
	}
	return way, 0
}

// below are the inode and all that lies below it, each with how many names further down.
func (t plainTree) below(number int64, names int) map[int64]int {
	found := map[int64]int{number: names}
	if t[number].kind != impl.KindDir {
		return found
	}
	for _, e := range t[number].entries() {
		for n, names := range t.below(e.Inode, names+1) {
			found[n] = max(found[n], names)
		}
	}
	return found
}

func (t plainTree) with(number int64, x plainThing) plainTree {
	t = maps.Clone(t)
	t[number] = x
	return t
}

func (t plainTree) added(dir int64, e impl.Entry) plainTree {
	return t.with(dir, t[dir].withEntries(append(t[dir].entries(), e)))
}

func (t plainTree) taken(dir int64, name string) plainTree {
	entries := t[dir].entries()
	return t.with(dir, t[dir].withEntries(plainRemove(entries, plainFind(entries, name))))
}

// unnamed is the tree without an entry, and without what it names if that is not kept.
func (s *plainSystem) unnamed(t plainTree, dir int64, name string) plainTree {
	number := t[dir].entries()[plainFind(t[dir].entries(), name)].Inode
	t = t.taken(dir, name)
	x := t[number]
	x.links--
	t = t.with(number, x)
	if x.links == 0 && !slices.Contains(slices.Collect(maps.Values(s.open)), number) {
		delete(t, number)
	}
	return t
}

// plainCredits are the six sums of 12.3.
func plainCredits(before, after plainTree, mapBlocks int64) int64 {
	sum, inodeMap, blockMap := int64(0), int64(0), int64(0)
	for number, x := range after {
		old := before[number]
		for index, b := range x.blocks {
			if was, ok := old.blocks[index]; !ok || was != b {
				sum++
			}
		}
		if len(x.listed()) > 0 && !slices.Equal(x.listed(), old.listed()) {
			sum++
		}
		if x.kind != old.kind || x.links != old.links || x.size != old.size || !slices.Equal(x.indexes(), old.indexes()) {
			sum++
		}
		if old.kind == 0 {
			inodeMap = 1
		}
		if !slices.Equal(x.indexes(), old.indexes()) {
			blockMap = mapBlocks
		}
	}
	for number, old := range before {
		x, stays := after[number]
		if !stays {
			sum++
			inodeMap = 1
		}
		for index := range old.blocks {
			if _, ok := x.blocks[index]; !ok {
				sum++
				blockMap = mapBlocks
			}
		}
		if len(old.listed()) > 0 && len(x.listed()) == 0 {
			sum++
		}
	}
	return sum + inodeMap + blockMap
}

// plainSystemOf mounts the disk and carries out all the calls; or it tells the code of the run.
func plainSystemOf(d impl.Disk, calls []impl.Call) (*plainSystem, int64) {
	if len(calls) > 1000 {
		return nil, impl.ErrCall
	}
	h, code := plainHandlesOf(d, nil)
	if code != 0 {
		return nil, code
	}
	for _, rule := range plainCheck(impl.Disk{Durable: h.image}) {
		if rule <= 3 {
			return nil, impl.ErrSuper
		}
		return nil, impl.ErrCorrupt
	}
	s := &plainSystem{plainHandles: h, open: map[int64]int64{}}
	s.g = s.volume().g
	s.p, _ = plainPlaces(s.g)
	for number := int64(1); number <= s.g.Inodes; number++ {
		t := s.tree()
		if x, ok := t[number]; ok && x.links == 0 {
			after := maps.Clone(t)
			delete(after, number)
			s.move(t, after, x.freeing(s.p.MapBlocks), 0)
		}
	}
	s.mounted = len(s.ops)
	for _, c := range calls {
		s.call(c)
	}
	return s, 0
}

// call carries out one call more.
func (s *plainSystem) call(c impl.Call) impl.Answer {
	s.credits = append(s.credits, 0)
	s.told = append(s.told, s.answerTo(c, int64(len(s.told))))
	s.toldAt = append(s.toldAt, len(s.ops))
	return s.told[len(s.told)-1]
}

// imageNow is the disk in which each block is as it is now.
func (s *plainSystem) imageNow() []byte {
	image := bytes.Clone(s.image)
	for b := 2 + s.size; b < s.blocks; b++ {
		copy(image[b*64:], s.now(b))
	}
	return image
}

func (s *plainSystem) volume() *plainVolume {
	v, _ := plainVolumeOf(s.imageNow())
	return v
}

func (s *plainSystem) tree() plainTree {
	if s.seenTree != nil {
		return s.seenTree
	}
	v := s.volume()
	t := plainTree{}
	for number, i := range v.inodes {
		if i.Kind == 0 {
			continue
		}
		x := plainThing{kind: i.Kind, links: i.Links, size: i.Size, blocks: map[int64]string{}}
		for index, b := range slices.Concat(i.Direct, v.list(i)) {
			if b != 0 {
				x.blocks[int64(index)] = string(v.block(b))
			}
		}
		t[int64(number)] = x
	}
	s.seenTree = t
	return t
}

// record counts a commit, if there is one, with so many calls' changes.
func (s *plainSystem) record(calls int64) {
	marks := len(s.marks)
	s.commit()
	for range s.marks[marks:] {
		s.commits = append(s.commits, calls)
	}
}

// settle commits, with so many calls' changes, and checkpoints if that is asked.
func (s *plainSystem) settle(kind, calls int64) {
	if s.bare {
		return
	}
	s.record(calls)
	if kind == impl.CallCheckpoint {
		s.checkpoint()
	}
}

func (s *plainSystem) answerTo(c impl.Call, ahead int64) impl.Answer {
	t := s.tree()
	switch {
	case c.Kind < 1 || c.Kind > 25:
		return impl.Answer{Code: impl.ErrCall}
	case c.Kind == impl.CallSync, c.Kind == impl.CallCheckpoint:
		s.settle(c.Kind, ahead+1)
		return impl.Answer{}
	case c.Kind > impl.CallClose:
		a, code := s.asked(t, c)
		if code != 0 {
			return impl.Answer{Code: code}
		}
		return a
	}
	after, code := s.changed(t, c)
	if code != 0 {
		return impl.Answer{Code: code}
	}
	if s.wants(after) > s.p.DataBlocks && mayWantSpace(c.Kind) {
		return impl.Answer{Code: impl.ErrNoSpace}
	}
	credits := plainCredits(t, after, s.p.MapBlocks)
	s.credits[ahead] = credits
	if credits > s.g.Log/4 || s.strands(after) {
		return impl.Answer{Code: impl.ErrCredit}
	}
	if credits > 0 {
		s.move(t, after, credits, ahead)
	}
	if c.Kind == impl.CallClose {
		delete(s.open, c.Handle)
	}
	return impl.Answer{}
}

func mayWantSpace(kind int64) bool {
	return slices.Contains([]int64{impl.CallCreate, impl.CallMkdir, impl.CallRename, impl.CallWrite, impl.CallAppend, impl.CallPwrite, impl.CallLink, impl.CallSymlink}, kind)
}

// wants is how many blocks all of a tree needs.
func (s *plainSystem) wants(t plainTree) int64 {
	sum := int64(0)
	for _, x := range t {
		sum += plainNeed(x.indexes())
	}
	return sum
}

// strands asks for something without a name that one transaction could not free.
func (s *plainSystem) strands(t plainTree) bool {
	for _, x := range t {
		if x.links == 0 && x.freeing(s.p.MapBlocks) > s.g.Log/4 {
			return true
		}
	}
	return false
}

// asked is what the calls that change nothing answer.
func (s *plainSystem) asked(t plainTree, c impl.Call) (impl.Answer, int64) {
	switch c.Kind {
	case impl.CallSpace:
		return impl.Answer{Stat: impl.Stat{Size: s.g.Inodes - int64(len(t)), Blocks: s.p.DataBlocks - s.wants(t)}}, 0
	case impl.CallLog:
		if s.bare {
			return impl.Answer{}, 0
		}
		return impl.Answer{State: s.plainHandles.answer(statusCall()).State}, 0
	}
	number, code := s.about(t, c)
	if code != 0 {
		return impl.Answer{}, code
	}
	x := t[number]
	isDir := x.kind == impl.KindDir
	switch c.Kind {
	case impl.CallStat, impl.CallLstat, impl.CallFstat:
		return impl.Answer{Stat: impl.Stat{Kind: x.kind, Links: x.links, Size: x.size, Blocks: plainNeed(x.indexes())}}, 0
	case impl.CallList:
		if !isDir {
			return impl.Answer{}, impl.ErrNotDir
		}
		return impl.Answer{Names: plainNames(x.entries())}, 0
	case impl.CallReadlink:
		if x.kind != impl.KindLink {
			return impl.Answer{}, impl.ErrNotLink
		}
		return impl.Answer{Data: x.data()}, 0
	}
	if isDir {
		return impl.Answer{}, impl.ErrIsDir
	}
	if c.Kind == impl.CallOpen {
		return s.opens(number)
	}
	if c.Offset < 0 || c.Size < 0 {
		return impl.Answer{}, impl.ErrRange
	}
	var data []byte
	whole := x.data()
	for at := c.Offset; at < x.size && at-c.Offset < c.Size; at++ {
		data = append(data, whole[at])
	}
	return impl.Answer{Data: string(data)}, 0
}

func (s *plainSystem) opens(number int64) (impl.Answer, int64) {
	if len(s.open) == 8 {
		return impl.Answer{}, impl.ErrHandles
	}
	handle := int64(1)
	for s.open[handle] != 0 {
		handle++
	}
	s.open[handle] = number
	return impl.Answer{Handle: handle}, 0
}

// about is the inode that a call of one path or one handle is about.
func (s *plainSystem) about(t plainTree, c impl.Call) (int64, int64) {
	switch c.Kind {
	case impl.CallPwrite, impl.CallFtruncate, impl.CallClose, impl.CallPread, impl.CallFstat:
		if number, ok := s.open[c.Handle]; ok {
			return number, 0
		}
		return 0, impl.ErrHandle
	}
	last := !slices.Contains([]int64{impl.CallUnlink, impl.CallRmdir, impl.CallLink, impl.CallLstat, impl.CallReadlink}, c.Kind)
	way, code := t.find(c.Path, last)
	if code != 0 {
		return 0, code
	}
	return way[len(way)-1], 0
}

// changed is the tree behind a changing call, as far as room and credits play no part.
func (s *plainSystem) changed(t plainTree, c impl.Call) (plainTree, int64) {
	empty := map[int64]string{}
	switch c.Kind {
	case impl.CallCreate:
		return s.newOne(t, c.Path, plainThing{kind: impl.KindFile, links: 1, blocks: empty})
	case impl.CallMkdir:
		return s.newOne(t, c.Path, plainThing{kind: impl.KindDir, links: 1, blocks: empty})
	case impl.CallSymlink:
		for _, path := range []string{c.Path, c.To} {
			if code := plainSplit(path).Code; code != 0 {
				return nil, code
			}
		}
		return s.newOne(t, c.Path, plainThing{kind: impl.KindLink, links: 1, blocks: empty}.withBytes(0, c.To))
	case impl.CallUnlink, impl.CallRmdir:
		return s.withoutName(t, c)
	case impl.CallRename:
		return s.renamed(t, c)
	case impl.CallLink:
		return s.linked(t, c)
	}
	number, code := s.about(t, c)
	if code != 0 {
		return nil, code
	}
	x := t[number]
	if x.kind == impl.KindDir {
		return nil, impl.ErrIsDir
	}
	switch c.Kind {
	case impl.CallClose:
		handles := slices.Collect(maps.Values(s.open))
		slices.Sort(handles)
		first, _ := slices.BinarySearch(handles, number)
		if x.links == 0 && !slices.Contains(handles[first+1:], number) {
			t = maps.Clone(t)
			delete(t, number)
		}
		return t, 0
	case impl.CallTruncate, impl.CallFtruncate:
		if code := rangeCode(c.Size, 0); code != 0 {
			return nil, code
		}
		return t.with(number, x.cut(c.Size)), 0
	case impl.CallAppend:
		c.Offset = x.size
	}
	if code := rangeCode(c.Offset, len(c.Data)); code != 0 {
		return nil, code
	}
	return t.with(number, x.withBytes(c.Offset, c.Data)), 0
}

func rangeCode(offset int64, length int) int64 {
	switch {
	case offset < 0:
		return impl.ErrRange
	case offset > 2560 || offset+int64(length) > 2560:
		return impl.ErrTooBig
	}
	return 0
}

func (s *plainSystem) newOne(t plainTree, path string, x plainThing) (plainTree, int64) {
	names := plainSplit(path)
	if names.Code != 0 {
		return nil, names.Code
	}
	if len(names.Names) == 0 {
		return nil, impl.ErrExists
	}
	way, code := t.place(names.Names)
	if code != 0 {
		return nil, code
	}
	number := int64(1)
	for t[number].kind != 0 {
		number++
	}
	if number > s.g.Inodes {
		return nil, impl.ErrNoSpace
	}
	return t.with(number, x).added(way[len(way)-1], impl.Entry{Inode: number, Name: names.Names[len(names.Names)-1]}), 0
}

func (s *plainSystem) withoutName(t plainTree, c impl.Call) (plainTree, int64) {
	way, code := t.find(c.Path, false)
	if code != 0 {
		return nil, code
	}
	x := t[way[len(way)-1]]
	isDir := x.kind == impl.KindDir
	switch {
	case c.Kind == impl.CallUnlink && isDir:
		return nil, impl.ErrIsDir
	case c.Kind == impl.CallRmdir && !isDir:
		return nil, impl.ErrNotDir
	case isDir && len(way) == 1:
		return nil, impl.ErrRoot
	case isDir && x.size > 0:
		return nil, impl.ErrNotEmpty
	}
	names := plainSplit(c.Path).Names
	return s.unnamed(t, way[len(way)-2], names[len(names)-1]), 0
}

func (s *plainSystem) linked(t plainTree, c impl.Call) (plainTree, int64) {
	for _, path := range []string{c.Path, c.To} {
		if code := plainSplit(path).Code; code != 0 {
			return nil, code
		}
	}
	to := plainSplit(c.To).Names
	if len(to) == 0 {
		return nil, impl.ErrExists
	}
	number, code := s.about(t, c)
	if code != 0 {
		return nil, code
	}
	x := t[number]
	if x.kind == impl.KindDir {
		return nil, impl.ErrIsDir
	}
	way, code := t.place(to)
	if code != 0 {
		return nil, code
	}
	if x.links == 8 {
		return nil, impl.ErrLinks
	}
	x.links++
	return t.with(number, x).added(way[len(way)-1], impl.Entry{Inode: number, Name: to[len(to)-1]}), 0
}

func (s *plainSystem) renamed(t plainTree, c impl.Call) (plainTree, int64) {
	from, to := plainSplit(c.Path), plainSplit(c.To)
	for _, p := range []impl.PathResult{from, to} {
		if p.Code != 0 {
			return nil, p.Code
		}
	}
	if len(from.Names) == 0 || len(to.Names) == 0 {
		return nil, impl.ErrRoot
	}
	way, code := t.find(c.Path, false)
	if code != 0 {
		return nil, code
	}
	parent, code := t.parent(to.Names)
	if code != 0 {
		return nil, code
	}
	oldDir, moved := way[len(way)-2], way[len(way)-1]
	oldName, dir, name := from.Names[len(from.Names)-1], parent[len(parent)-1], to.Names[len(to.Names)-1]
	entries := t[dir].entries()
	at := plainFind(entries, name)
	if at >= 0 && entries[at].Inode == moved {
		return t, 0
	}
	isDir := t[moved].kind == impl.KindDir
	if _, inside := t.below(moved, 0)[dir]; isDir && inside {
		return nil, impl.ErrInside
	}
	if at >= 0 {
		target := t[entries[at].Inode]
		switch {
		case !isDir && target.kind == impl.KindDir:
			return nil, impl.ErrIsDir
		case isDir && target.kind != impl.KindDir:
			return nil, impl.ErrNotDir
		case isDir && target.size > 0:
			return nil, impl.ErrNotEmpty
		}
	} else if len(entries) == 160 && dir != oldDir {
		return nil, impl.ErrTooBig
	}
	for _, names := range t.below(moved, len(parent)) {
		if names > 16 {
			return nil, impl.ErrDepth
		}
	}
	if at >= 0 {
		t = s.unnamed(t, dir, name)
	}
	return t.taken(oldDir, oldName).added(dir, impl.Entry{Inode: moved, Name: name}), 0
}

// move takes the disk from one tree to the next: steps 2 to 4 of 12.2.
func (s *plainSystem) move(before, after plainTree, credits, ahead int64) {
	if s.bare {
		s.seenTree = after
		return
	}
	if s.running()+credits > s.g.Log/4 {
		s.record(ahead)
	}
	s.seenTree = nil
	old := s.imageNow()
	image := bytes.Clone(old)
	s.lay(image, after)
	for b := 2 + s.size; b < s.blocks; b++ {
		data := image[b*64 : b*64+64]
		was, is := s.isTaken(old, b), s.isTaken(image, b)
		switch {
		case is && (!was || !bytes.Equal(data, old[b*64:b*64+64])):
			s.homes[b] = data
			delete(s.revokes, b)
		case was && !is:
			delete(s.homes, b)
			s.revokes[b] = true
		}
	}
}

func (s *plainSystem) isTaken(image []byte, b int64) bool {
	return image[s.p.BlockMap*64+b/8]>>(b%8)&1 == 1
}

// lay makes the disk one that has this tree. The place -1 of an inode is its pointer block.
func (s *plainSystem) lay(image []byte, after plainTree) {
	v, _ := plainVolumeOf(image)
	places := make([]map[int64]int64, s.g.Inodes+1)
	taken := map[int64]bool{}
	for number, i := range v.inodes {
		places[number] = map[int64]int64{}
		for index, b := range slices.Concat([]int64{i.Indirect}, i.Direct, v.list(i)) {
			at := int64(index) - 1
			_, stays := after[int64(number)].blocks[at]
			if at == -1 {
				stays = len(after[int64(number)].listed()) > 0
			}
			if b != 0 && stays {
				places[number][at] = b
				taken[b] = true
			}
		}
	}
	take := func(number, at int64) {
		if places[number][at] == 0 {
			b := s.p.Data
			for taken[b] {
				b++
			}
			places[number][at] = b
			taken[b] = true
		}
	}
	for number := int64(1); number <= s.g.Inodes; number++ {
		for _, index := range after[number].indexes() {
			if index >= 8 {
				take(number, -1)
			}
			take(number, index)
		}
		s.layOne(image, number, after[number], places[number])
	}
	copy(image[s.p.InodeMap*64:], plainMap(1, func(i int64) bool { return i >= s.g.Inodes || after[i+1].kind != 0 }))
	copy(image[s.p.BlockMap*64:], plainMap(s.p.MapBlocks, func(b int64) bool { return b < s.p.Data || b >= s.g.Blocks || taken[b] }))
}

func (s *plainSystem) layOne(image []byte, number int64, x plainThing, places map[int64]int64) {
	i := impl.Inode{Kind: x.kind, Links: x.links, Size: x.size, Direct: make([]int64, 8), Indirect: places[-1]}
	list := make([]int64, 32)
	for index, b := range x.blocks {
		copy(image[places[index]*64:], b)
		if index < 8 {
			i.Direct[index] = places[index]
		} else {
			list[index-8] = places[index]
		}
	}
	if i.Indirect != 0 {
		copy(image[i.Indirect*64:], pointersKind().plain(list))
	}
	copy(image[s.p.Table*64+(number-1)*32:], inodeKind().plain(i))
}

// run is what Run has to answer when so many operations are done, and the disk is as it is then.
func (s *plainSystem) run(done int, d impl.Disk) impl.RunResult {
	r := impl.RunResult{Stopped: done < len(s.ops), Ops: int64(done), Disk: d}
	if done < s.mounted {
		return r
	}
	for i, a := range s.told {
		if s.toldAt[i] <= done {
			r.Answers = append(r.Answers, a)
		}
	}
	return r
}

// after is the disk behind so many operations.
func (s *plainSystem) after(d impl.Disk, done int) impl.Disk {
	for _, op := range s.ops[:done] {
		d = step(d, op)
	}
	return d
}

func sameAnswers(t *testing.T, name string, limit int64, calls []impl.Call, got, want impl.RunResult) {
	t.Helper()
	if value(got) == value(want) {
		return
	}
	if got.Code != want.Code || got.Stopped != want.Stopped || got.Ops != want.Ops {
		t.Errorf("%s, limit %d: code %d, stopped %v, %d operations, not %d, %v, %d", name, limit, got.Code, got.Stopped, got.Ops, want.Code, want.Stopped, want.Ops)
	}
	for i := range min(len(got.Answers), len(want.Answers)) {
		if value(got.Answers[i]) != value(want.Answers[i]) {
			t.Fatalf("%s, limit %d: call %d, %+v, answers %+v, not %+v", name, limit, i, calls[i], got.Answers[i], want.Answers[i])
		}
	}
	t.Fatalf("%s, limit %d: %d answers, not %d, or another disk, %d pending, not %d", name, limit, len(got.Answers), len(want.Answers), len(got.Disk.Pending), len(want.Disk.Pending))
}

// checkSystem holds Run, Tree and Commits of these calls against the document.
func checkSystem(t *testing.T, name string, d impl.Disk, calls []impl.Call) *plainSystem {
	t.Helper()
	s, code := plainSystemOf(d, calls)
	r, o, commits := impl.Run(d, calls, -1), impl.Tree(d, calls), impl.Commits(d, calls)
	if code != 0 {
		if value(r) != value(impl.RunResult{Code: code}) || value(o) != value(impl.Observed{Code: code}) || len(commits) != 0 {
			t.Errorf("%s: Run has the code %d, Tree %d, not %d, or they tell more than that, or Commits tells %v", name, r.Code, o.Code, code, commits)
		}
		return nil
	}
	sameAnswers(t, name, -1, calls, r, s.run(len(s.ops), s.after(d, len(s.ops))))
	now := impl.Disk{Durable: s.imageNow()}
	broken := plainCheck(now)
	if len(broken) > 0 {
		t.Fatalf("%s: behind the calls the rules %v do not hold", name, broken)
	}
	if want := plainObserve(now, broken); value(o) != value(want) {
		t.Fatalf("%s: Tree tells %+v, not %+v", name, o, want)
	}
	if !slices.Equal(commits, s.commits) {
		t.Fatalf("%s: Commits tells %v, not %v", name, commits, s.commits)
	}
	return s
}

// checkSystemStopped is checkSystem, and the run stopped at each of its operations.
func checkSystemStopped(t *testing.T, name string, d impl.Disk, calls []impl.Call) *plainSystem {
	t.Helper()
	s := checkSystem(t, name, d, calls)
	behind := d
	for done := range s.ops {
		sameAnswers(t, name, int64(done), calls, impl.Run(d, calls, int64(done)), s.run(done, behind))
		behind = step(behind, s.ops[done])
	}
	for _, limit := range []int64{0, 1} {
		limit += int64(len(s.ops))
		sameAnswers(t, name, limit, calls, impl.Run(d, calls, limit), s.run(len(s.ops), behind))
	}
	return s
}
