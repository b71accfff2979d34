package tests

import (
	"math"
	"math/rand"
	"slices"

	"loop.example/s01525/impl"
)

// Chapter 9 once more, written down plainly.

// plainFields lays fields down one behind the other, and zeros behind them up to so many bytes; nil if one does not fit.
func plainFields(most int, fields ...field) []byte {
	var b []byte
	for _, f := range fields {
		if f.number < 0 || f.number >= 1<<(8*f.bytes) {
			return nil
		}
		b = append(b, plainNumber(f.number, int64(f.bytes))...)
	}
	if len(b) > most {
		return nil
	}
	return append(b, make([]byte, most-len(b))...)
}

func isNoPointer(b int64) bool {
	return b < 0 || b > 2047
}

// isInode goes through the rules of 9.1 in their order.
func isInode(i impl.Inode) bool {
	if len(i.Direct) != 8 || slices.ContainsFunc(append(slices.Clone(i.Direct), i.Indirect), isNoPointer) {
		return false
	}
	if i.Kind == 0 {
		return i.Links == 0 && i.Size == 0 && i.Indirect == 0 && slices.Max(i.Direct) == 0
	}
	if i.Kind != 1 && i.Kind != 2 && i.Kind != 3 {
		return false
	}
	if i.Links < 0 || i.Links > 8 || i.Links == 0 && i.Kind != 1 || i.Size < 0 || i.Size > 2560 {
		return false
	}
	for k, b := range append(slices.Clone(i.Direct), i.Indirect) {
		behind := int64(64*k) >= i.Size
		if b != 0 && behind || b == 0 && !behind && i.Kind != 1 {
			return false
		}
	}
	if i.Kind == 2 {
		return i.Links == 1 && i.Size%16 == 0
	}
	return i.Kind == 1 || 1 <= i.Size && i.Size <= 240
}

func inodeKind() journalKind {
	return journalKind{
		name: "inode", zero: impl.Inode{},
		encode: func(thing any) []byte { return impl.EncodeInode(thing.(impl.Inode)) },
		decode: func(b []byte) (bool, any) { r := impl.DecodeInode(b); return r.Good, r.Inode },
		plain: func(thing any) []byte {
			i := thing.(impl.Inode)
			if len(i.Direct) != 8 {
				return nil
			}
			fields := []field{{i.Kind, 1}, {i.Links, 1}, {i.Size, 2}}
			for _, b := range append(slices.Clone(i.Direct), i.Indirect) {
				fields = append(fields, field{b, 2})
			}
			return plainFields(32, fields...)
		},
		parse: func(b []byte) any {
			i := impl.Inode{Kind: int64(b[0]), Links: int64(b[1]), Size: parsed(b, 2, 2), Indirect: parsed(b, 20, 2)}
			for k := range 8 {
				i.Direct = append(i.Direct, parsed(b, 4+2*k, 2))
			}
			return i
		},
		valid: func(thing any) bool { return isInode(thing.(impl.Inode)) },
		drawn: func(draw *rand.Rand) any { return drawnInode(draw) },
	}
}

func pointersKind() journalKind {
	return journalKind{
		name: "pointer block", zero: []int64{},
		encode: func(thing any) []byte { return impl.EncodePointers(thing.([]int64)) },
		decode: func(b []byte) (bool, any) { p := impl.DecodePointers(b); return len(p) > 0, p },
		plain: func(thing any) []byte {
			var fields []field
			for _, b := range thing.([]int64) {
				fields = append(fields, field{b, 2})
			}
			return plainFields(64, fields...)
		},
		parse: func(b []byte) any {
			var p []int64
			for j := range 32 {
				p = append(p, parsed(b, 2*j, 2))
			}
			return p
		},
		valid: func(thing any) bool {
			p := thing.([]int64)
			return len(p) == 32 && !slices.ContainsFunc(p, isNoPointer)
		},
		drawn: func(draw *rand.Rand) any { return drawnPointers(draw, 32) },
	}
}

// inodeOf is an inode with a block wherever it may have one, their numbers rising from first on.
func inodeOf(kind, links, size, first int64) impl.Inode {
	i := impl.Inode{Kind: kind, Links: links, Size: size, Direct: make([]int64, 8)}
	for k := range i.Direct {
		if int64(k)*64 < size {
			i.Direct[k] = first + int64(k)
		}
	}
	if size > 512 {
		i.Indirect = first + 8
	}
	return i
}

// copied is an inode whose list may be written over.
func copied(i impl.Inode) impl.Inode {
	i.Direct = slices.Clone(i.Direct)
	return i
}

func drawnInode(draw *rand.Rand) impl.Inode {
	first := 1 + draw.Int63n(2039)
	switch draw.Intn(8) {
	case 0:
		return inodeOf(0, 0, 0, 0)
	case 1, 2:
		return inodeOf(2, 1, 16*draw.Int63n(161), first)
	case 3, 4:
		return inodeOf(3, 1+draw.Int63n(8), 1+draw.Int63n(240), first)
	}
	i := inodeOf(1, draw.Int63n(9), draw.Int63n(2561), first)
	for k := range i.Direct {
		if draw.Intn(3) == 0 {
			i.Direct[k] = 0
		}
	}
	if draw.Intn(3) == 0 {
		i.Indirect = 0
	}
	return i
}

// drawnPointers are so many numbers of blocks, some of them 0.
func drawnPointers(draw *rand.Rand, n int) []int64 {
	p := make([]int64, n)
	for j := range p {
		p[j] = draw.Int63n(2048) * draw.Int63n(2)
	}
	return p
}

// someInodes are valid ones of all four kinds, with each field at its least and its largest.
func someInodes() []impl.Inode {
	list := []impl.Inode{inodeOf(0, 0, 0, 0)}
	for _, first := range []int64{1, 247, 2039} {
		for _, size := range []int64{0, 1, 63, 64, 65, 511, 512, 513, 576, 2559, 2560} {
			for _, links := range []int64{0, 1, 8} {
				list = append(list, inodeOf(1, links, size, first))
			}
		}
		for _, size := range []int64{0, 16, 48, 64, 80, 496, 512, 528, 2544, 2560} {
			list = append(list, inodeOf(2, 1, size, first))
		}
		for _, size := range []int64{1, 2, 63, 64, 65, 192, 193, 239, 240} {
			list = append(list, inodeOf(3, 1, size, first), inodeOf(3, 8, size, first))
		}
	}
	holes := inodeOf(1, 1, 2560, 1)
	holes.Direct = make([]int64, 8)
	full := inodeOf(1, 2, 2560, 2047)
	full.Direct, full.Indirect = []int64{2047, 2047, 2047, 2047, 2047, 2047, 2047, 2047}, 2047
	return append(list, holes, full, inodeOf(1, 1, 600, 0))
}

// farNumbers are those that no field takes, and the bounds of all fields.
func farNumbers() []int64 {
	return []int64{
		math.MinInt64, math.MinInt64 + 1, -65536, -256, -1, 0, 1, 2, 3, 4, 5, 7, 8, 9, 15, 16, 17, 63, 64, 65, 80, 128, 129, 192, 193, 239, 240, 241, 255, 256, 257,
		448, 449, 496, 511, 512, 513, 514, 528, 576, 2047, 2048, 2049, 2544, 2559, 2560, 2561, 2576, 65535, 65536, 1 << 32, math.MaxInt64 - 1, math.MaxInt64,
	}
}

// plainSpans goes byte by byte.
func plainSpans(offset, n int64) []impl.Span {
	var spans []impl.Span
	if offset < 0 || n < 0 || offset > 2560 || n > 2560 || offset+n > 2560 {
		return nil
	}
	for at := range n {
		index, from := (offset+at)/64, (offset+at)%64
		if at == 0 || from == 0 {
			spans = append(spans, impl.Span{Index: index, From: from, At: at})
		}
		spans[len(spans)-1].Count++
	}
	return spans
}

// plainNeed counts what is left of the indexes when they are sorted and each stands there once.
func plainNeed(indexes []int64) int64 {
	if len(indexes) > 100000 {
		return -1
	}
	list := slices.Clone(indexes)
	slices.Sort(list)
	list = slices.Compact(list)
	if len(list) == 0 {
		return 0
	}
	least, most := list[0], list[len(list)-1]
	switch {
	case least < 0 || most > 39:
		return -1
	case most > 7:
		return int64(len(list)) + 1
	}
	return int64(len(list))
}
